/- Right, Op by Op: as plain tests. -/
import Derived.Test.YtpinpipjlongaaaInstM
namespace Go.Proofs.Ytpinpipjlongaaa
set_option linter.unusedVariables false

theorem right_1 (d s t u a k pl p : Int) (hd : 0 ≤ d ∧ d ≤ 7) (hs : 0 ≤ s ∧ s ≤ 7) (ht : 0 ≤ t ∧ t ≤ 7) (hu : 0 ≤ u ∧ u ≤ 7) (ha : 0 ≤ a ∧ a ≤ 7) (k0 : 0 ≤ k) (k1 : k < 4294967296) :
    rightB ⟨1, d, s, t, u, a, k, pl⟩ p = (eqI ⟨1, d, 0, 0, 0, 0, k, 0⟩ ⟨1, d, s, t, u, a, k, pl⟩) := by
  rw [Bool.eq_iff_iff]
  simp [rightB, hsL, inB, lowI, endI, getI, clr, setI, isZ, eqI]
  omega
theorem right_2 (d s t u a k pl p : Int) (hd : 0 ≤ d ∧ d ≤ 7) (hs : 0 ≤ s ∧ s ≤ 7) (ht : 0 ≤ t ∧ t ≤ 7) (hu : 0 ≤ u ∧ u ≤ 7) (ha : 0 ≤ a ∧ a ≤ 7) (k0 : 0 ≤ k) (k1 : k < 4294967296) :
    rightB ⟨2, d, s, t, u, a, k, pl⟩ p = (eqI ⟨2, d, s, 0, 0, 0, 0, 0⟩ ⟨2, d, s, t, u, a, k, pl⟩) := by
  rw [Bool.eq_iff_iff]
  simp [rightB, hsL, inB, lowI, endI, getI, clr, setI, isZ, eqI]
  omega
theorem right_3 (d s t u a k pl p : Int) (hd : 0 ≤ d ∧ d ≤ 7) (hs : 0 ≤ s ∧ s ≤ 7) (ht : 0 ≤ t ∧ t ≤ 7) (hu : 0 ≤ u ∧ u ≤ 7) (ha : 0 ≤ a ∧ a ≤ 7) (k0 : 0 ≤ k) (k1 : k < 4294967296) :
    rightB ⟨3, d, s, t, u, a, k, pl⟩ p = (eqI ⟨3, d, s, 0, 0, 0, k, 0⟩ ⟨3, d, s, t, u, a, k, pl⟩) := by
  rw [Bool.eq_iff_iff]
  simp [rightB, hsL, inB, lowI, endI, getI, clr, setI, isZ, eqI]
  omega
theorem right_4 (d s t u a k pl p : Int) (hd : 0 ≤ d ∧ d ≤ 7) (hs : 0 ≤ s ∧ s ≤ 7) (ht : 0 ≤ t ∧ t ≤ 7) (hu : 0 ≤ u ∧ u ≤ 7) (ha : 0 ≤ a ∧ a ≤ 7) (k0 : 0 ≤ k) (k1 : k < 4294967296) :
    rightB ⟨4, d, s, t, u, a, k, pl⟩ p = (eqI ⟨4, d, s, 0, 0, 0, k, 0⟩ ⟨4, d, s, t, u, a, k, pl⟩) := by
  rw [Bool.eq_iff_iff]
  simp [rightB, hsL, inB, lowI, endI, getI, clr, setI, isZ, eqI]
  omega
theorem right_5 (d s t u a k pl p : Int) (hd : 0 ≤ d ∧ d ≤ 7) (hs : 0 ≤ s ∧ s ≤ 7) (ht : 0 ≤ t ∧ t ≤ 7) (hu : 0 ≤ u ∧ u ≤ 7) (ha : 0 ≤ a ∧ a ≤ 7) (k0 : 0 ≤ k) (k1 : k < 4294967296) :
    rightB ⟨5, d, s, t, u, a, k, pl⟩ p = (eqI ⟨5, d, s, 0, 0, 0, k, 0⟩ ⟨5, d, s, t, u, a, k, pl⟩ && decide (k ≤ 31)) := by
  rw [Bool.eq_iff_iff]
  simp [rightB, hsL, inB, lowI, endI, getI, clr, setI, isZ, eqI]
  omega
theorem right_6 (d s t u a k pl p : Int) (hd : 0 ≤ d ∧ d ≤ 7) (hs : 0 ≤ s ∧ s ≤ 7) (ht : 0 ≤ t ∧ t ≤ 7) (hu : 0 ≤ u ∧ u ≤ 7) (ha : 0 ≤ a ∧ a ≤ 7) (k0 : 0 ≤ k) (k1 : k < 4294967296) :
    rightB ⟨6, d, s, t, u, a, k, pl⟩ p = (eqI ⟨6, d, s, 0, 0, 0, k, 0⟩ ⟨6, d, s, t, u, a, k, pl⟩ && decide (k ≤ 31)) := by
  rw [Bool.eq_iff_iff]
  simp [rightB, hsL, inB, lowI, endI, getI, clr, setI, isZ, eqI]
  omega
theorem right_7 (d s t u a k pl p : Int) (hd : 0 ≤ d ∧ d ≤ 7) (hs : 0 ≤ s ∧ s ≤ 7) (ht : 0 ≤ t ∧ t ≤ 7) (hu : 0 ≤ u ∧ u ≤ 7) (ha : 0 ≤ a ∧ a ≤ 7) (k0 : 0 ≤ k) (k1 : k < 4294967296) :
    rightB ⟨7, d, s, t, u, a, k, pl⟩ p = (eqI ⟨7, d, s, t, 0, 0, 0, 0⟩ ⟨7, d, s, t, u, a, k, pl⟩) := by
  rw [Bool.eq_iff_iff]
  simp [rightB, hsL, inB, lowI, endI, getI, clr, setI, isZ, eqI]
  omega
theorem right_8 (d s t u a k pl p : Int) (hd : 0 ≤ d ∧ d ≤ 7) (hs : 0 ≤ s ∧ s ≤ 7) (ht : 0 ≤ t ∧ t ≤ 7) (hu : 0 ≤ u ∧ u ≤ 7) (ha : 0 ≤ a ∧ a ≤ 7) (k0 : 0 ≤ k) (k1 : k < 4294967296) :
    rightB ⟨8, d, s, t, u, a, k, pl⟩ p = (eqI ⟨8, 0, s, t, 0, 0, 0, pl⟩ ⟨8, d, s, t, u, a, k, pl⟩ && (decide (0 ≤ pl) && decide (pl < p))) := by
  rw [Bool.eq_iff_iff]
  simp [rightB, hsL, inB, lowI, endI, getI, clr, setI, isZ, eqI]
  omega
theorem right_9 (d s t u a k pl p : Int) (hd : 0 ≤ d ∧ d ≤ 7) (hs : 0 ≤ s ∧ s ≤ 7) (ht : 0 ≤ t ∧ t ≤ 7) (hu : 0 ≤ u ∧ u ≤ 7) (ha : 0 ≤ a ∧ a ≤ 7) (k0 : 0 ≤ k) (k1 : k < 4294967296) :
    rightB ⟨9, d, s, t, u, a, k, pl⟩ p = (eqI ⟨9, 0, s, t, 0, 0, 0, pl⟩ ⟨9, d, s, t, u, a, k, pl⟩ && (decide (0 ≤ pl) && decide (pl < p))) := by
  rw [Bool.eq_iff_iff]
  simp [rightB, hsL, inB, lowI, endI, getI, clr, setI, isZ, eqI]
  omega
theorem right_10 (d s t u a k pl p : Int) (hd : 0 ≤ d ∧ d ≤ 7) (hs : 0 ≤ s ∧ s ≤ 7) (ht : 0 ≤ t ∧ t ≤ 7) (hu : 0 ≤ u ∧ u ≤ 7) (ha : 0 ≤ a ∧ a ≤ 7) (k0 : 0 ≤ k) (k1 : k < 4294967296) :
    rightB ⟨10, d, s, t, u, a, k, pl⟩ p = (eqI ⟨10, 0, 0, 0, 0, 0, 0, pl⟩ ⟨10, d, s, t, u, a, k, pl⟩ && (decide (0 ≤ pl) && decide (pl < p))) := by
  rw [Bool.eq_iff_iff]
  simp [rightB, hsL, inB, lowI, endI, getI, clr, setI, isZ, eqI]
  omega
theorem right_11 (d s t u a k pl p : Int) (hd : 0 ≤ d ∧ d ≤ 7) (hs : 0 ≤ s ∧ s ≤ 7) (ht : 0 ≤ t ∧ t ≤ 7) (hu : 0 ≤ u ∧ u ≤ 7) (ha : 0 ≤ a ∧ a ≤ 7) (k0 : 0 ≤ k) (k1 : k < 4294967296) :
    rightB ⟨11, d, s, t, u, a, k, pl⟩ p = (eqI ⟨11, d, 0, 0, 0, 0, 0, 0⟩ ⟨11, d, s, t, u, a, k, pl⟩) := by
  rw [Bool.eq_iff_iff]
  simp [rightB, hsL, inB, lowI, endI, getI, clr, setI, isZ, eqI]
  omega
theorem right_22 (d s t u a k pl p : Int) (hd : 0 ≤ d ∧ d ≤ 7) (hs : 0 ≤ s ∧ s ≤ 7) (ht : 0 ≤ t ∧ t ≤ 7) (hu : 0 ≤ u ∧ u ≤ 7) (ha : 0 ≤ a ∧ a ≤ 7) (k0 : 0 ≤ k) (k1 : k < 4294967296) :
    rightB ⟨22, d, s, t, u, a, k, pl⟩ p = (eqI ⟨22, d, 0, 0, 0, 0, 0, 0⟩ ⟨22, d, s, t, u, a, k, pl⟩) := by
  rw [Bool.eq_iff_iff]
  simp [rightB, hsL, inB, lowI, endI, getI, clr, setI, isZ, eqI]
  omega
theorem right_12 (d s t u a k pl p : Int) (hd : 0 ≤ d ∧ d ≤ 7) (hs : 0 ≤ s ∧ s ≤ 7) (ht : 0 ≤ t ∧ t ≤ 7) (hu : 0 ≤ u ∧ u ≤ 7) (ha : 0 ≤ a ∧ a ≤ 7) (k0 : 0 ≤ k) (k1 : k < 4294967296) :
    rightB ⟨12, d, s, t, u, a, k, pl⟩ p = (eqI ⟨12, 0, 0, 0, 0, 0, k, 0⟩ ⟨12, d, s, t, u, a, k, pl⟩ && (decide (1 ≤ k) && decide (k ≤ 4))) := by
  rw [Bool.eq_iff_iff]
  simp [rightB, hsL, inB, lowI, endI, getI, clr, setI, isZ, eqI]
  omega
theorem right_13 (d s t u a k pl p : Int) (hd : 0 ≤ d ∧ d ≤ 7) (hs : 0 ≤ s ∧ s ≤ 7) (ht : 0 ≤ t ∧ t ≤ 7) (hu : 0 ≤ u ∧ u ≤ 7) (ha : 0 ≤ a ∧ a ≤ 7) (k0 : 0 ≤ k) (k1 : k < 4294967296) :
    rightB ⟨13, d, s, t, u, a, k, pl⟩ p = (eqI ⟨13, 0, 0, 0, 0, 0, k, 0⟩ ⟨13, d, s, t, u, a, k, pl⟩ && decide (k ≤ 3)) := by
  rw [Bool.eq_iff_iff]
  simp [rightB, hsL, inB, lowI, endI, getI, clr, setI, isZ, eqI]
  omega
theorem right_16 (d s t u a k pl p : Int) (hd : 0 ≤ d ∧ d ≤ 7) (hs : 0 ≤ s ∧ s ≤ 7) (ht : 0 ≤ t ∧ t ≤ 7) (hu : 0 ≤ u ∧ u ≤ 7) (ha : 0 ≤ a ∧ a ≤ 7) (k0 : 0 ≤ k) (k1 : k < 4294967296) :
    rightB ⟨16, d, s, t, u, a, k, pl⟩ p = (eqI ⟨16, d, s, 0, 0, a, 0, 0⟩ ⟨16, d, s, t, u, a, k, pl⟩) := by
  rw [Bool.eq_iff_iff]
  simp [rightB, hsL, inB, lowI, endI, getI, clr, setI, isZ, eqI]
  omega
theorem right_17 (d s t u a k pl p : Int) (hd : 0 ≤ d ∧ d ≤ 7) (hs : 0 ≤ s ∧ s ≤ 7) (ht : 0 ≤ t ∧ t ≤ 7) (hu : 0 ≤ u ∧ u ≤ 7) (ha : 0 ≤ a ∧ a ≤ 7) (k0 : 0 ≤ k) (k1 : k < 4294967296) :
    rightB ⟨17, d, s, t, u, a, k, pl⟩ p = (eqI ⟨17, 0, s, t, 0, a, 0, 0⟩ ⟨17, d, s, t, u, a, k, pl⟩) := by
  rw [Bool.eq_iff_iff]
  simp [rightB, hsL, inB, lowI, endI, getI, clr, setI, isZ, eqI]
  omega
theorem right_18 (d s t u a k pl p : Int) (hd : 0 ≤ d ∧ d ≤ 7) (hs : 0 ≤ s ∧ s ≤ 7) (ht : 0 ≤ t ∧ t ≤ 7) (hu : 0 ≤ u ∧ u ≤ 7) (ha : 0 ≤ a ∧ a ≤ 7) (k0 : 0 ≤ k) (k1 : k < 4294967296) :
    rightB ⟨18, d, s, t, u, a, k, pl⟩ p = (eqI ⟨18, d, s, t, 0, a, 0, 0⟩ ⟨18, d, s, t, u, a, k, pl⟩) := by
  rw [Bool.eq_iff_iff]
  simp [rightB, hsL, inB, lowI, endI, getI, clr, setI, isZ, eqI]
  omega
theorem right_19 (d s t u a k pl p : Int) (hd : 0 ≤ d ∧ d ≤ 7) (hs : 0 ≤ s ∧ s ≤ 7) (ht : 0 ≤ t ∧ t ≤ 7) (hu : 0 ≤ u ∧ u ≤ 7) (ha : 0 ≤ a ∧ a ≤ 7) (k0 : 0 ≤ k) (k1 : k < 4294967296) :
    rightB ⟨19, d, s, t, u, a, k, pl⟩ p = (eqI ⟨19, d, s, t, u, a, 0, 0⟩ ⟨19, d, s, t, u, a, k, pl⟩) := by
  rw [Bool.eq_iff_iff]
  simp [rightB, hsL, inB, lowI, endI, getI, clr, setI, isZ, eqI]
  omega
theorem right_20 (d s t u a k pl p : Int) (hd : 0 ≤ d ∧ d ≤ 7) (hs : 0 ≤ s ∧ s ≤ 7) (ht : 0 ≤ t ∧ t ≤ 7) (hu : 0 ≤ u ∧ u ≤ 7) (ha : 0 ≤ a ∧ a ≤ 7) (k0 : 0 ≤ k) (k1 : k < 4294967296) :
    rightB ⟨20, d, s, t, u, a, k, pl⟩ p = (eqI ⟨20, d, s, 0, 0, a, k, 0⟩ ⟨20, d, s, t, u, a, k, pl⟩) := by
  rw [Bool.eq_iff_iff]
  simp [rightB, hsL, inB, lowI, endI, getI, clr, setI, isZ, eqI]
  omega
theorem right_21 (d s t u a k pl p : Int) (hd : 0 ≤ d ∧ d ≤ 7) (hs : 0 ≤ s ∧ s ≤ 7) (ht : 0 ≤ t ∧ t ≤ 7) (hu : 0 ≤ u ∧ u ≤ 7) (ha : 0 ≤ a ∧ a ≤ 7) (k0 : 0 ≤ k) (k1 : k < 4294967296) :
    rightB ⟨21, d, s, t, u, a, k, pl⟩ p = (eqI ⟨21, d, s, t, 0, a, k, pl⟩ ⟨21, d, s, t, u, a, k, pl⟩ && (decide (k ≤ 1) && (decide (-1 ≤ pl) && (decide (pl = -1) || decide (pl < p))))) := by
  rw [Bool.eq_iff_iff]
  simp [rightB, hsL, inB, lowI, endI, getI, clr, setI, isZ, eqI]
  split <;> omega
theorem right_23 (d s t u a k pl p : Int) (hd : 0 ≤ d ∧ d ≤ 7) (hs : 0 ≤ s ∧ s ≤ 7) (ht : 0 ≤ t ∧ t ≤ 7) (hu : 0 ≤ u ∧ u ≤ 7) (ha : 0 ≤ a ∧ a ≤ 7) (k0 : 0 ≤ k) (k1 : k < 4294967296) :
    rightB ⟨23, d, s, t, u, a, k, pl⟩ p = (eqI ⟨23, 0, s, 0, 0, 0, 0, 0⟩ ⟨23, d, s, t, u, a, k, pl⟩) := by
  rw [Bool.eq_iff_iff]
  simp [rightB, hsL, inB, lowI, endI, getI, clr, setI, isZ, eqI]
  omega

/-- What is right has registers, and an area. -/
theorem right_regs (i : Ins) (p : Int) (h : rightB i p = true) : (0 ≤ i.d ∧ i.d ≤ 7) ∧ (0 ≤ i.s ∧ i.s ≤ 7) ∧ (0 ≤ i.t ∧ i.t ≤ 7) ∧ (0 ≤ i.u ∧ i.u ≤ 7) ∧ (0 ≤ i.a ∧ i.a ≤ 7) := by
  obtain ⟨op, d, s, t, u, a, k, pl⟩ := i
  rcases op_cases op with rfl | rfl | rfl | rfl | rfl | rfl | rfl | rfl | rfl | rfl | rfl | rfl | rfl | rfl | rfl | rfl | rfl | rfl | rfl | rfl | rfl | hn
  rotate_right
  · have := hs_none hn
    unfold rightB at h
    simp only [this.1] at h
    cases h
  all_goals
    simp [rightB, hsL, inB, lowI, endI, getI, clr, setI, isZ] at h
    simp only
    omega
end Go.Proofs.Ytpinpipjlongaaa
