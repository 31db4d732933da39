/- The document's core: Ref, pow, bits. -/
import Derived.Test.YtpinpipjlongaaaCoreP
import Derived.Deep.DeepCutAuto
import Derived.Deep.LoopGhost
namespace Go.Proofs.Ytpinpipjlongaaa
open Go.ChangeShapes Go.WideShapes Go.ChangeAt Go.RowKit
set_option linter.unusedVariables false

/-- The document's core: its cells. -/
def rorC (xs : List Int) (pc : Int) : List Value := xs.map (Value.int .i64) ++ [.int .i64 pc]
def rv (xs : List Int) (pc : Int) : Value := .agg (rorC xs pc).toArray
theorem rorC_at {xs : List Int} {pc : Int} (h : xs.length = 8) {k : Nat} (hk : k < 8) : (rorC xs pc).toArray[k]? = some (.int .i64 (nth xs k)) := by
  rw [List.getElem?_toArray, rorC, List.getElem?_append_left (by simp; omega), List.getElem?_map, nth_get (by omega)]
  rfl
theorem rorC_pc {xs : List Int} {pc : Int} (h : xs.length = 8) : (rorC xs pc).toArray[8]? = some (.int .i64 pc) := by
  rw [List.getElem?_toArray, rorC, List.getElem?_append_right (by simp; omega)]
  simp [h]
theorem rorC_set {xs : List Int} {pc : Int} (h : xs.length = 8) (k : Nat) (hk : k < 8) (v : Int) : (rorC xs pc).toArray.setIfInBounds k (.int .i64 v) = (rorC (xs.set k v) pc).toArray := by
  rw [List.setIfInBounds_toArray, rorC, rorC, List.set_append_left _ _ (by simp; omega), List.map_set]
theorem rorC_setpc {xs : List Int} {pc : Int} (h : xs.length = 8) (v : Int) : (rorC xs pc).toArray.setIfInBounds 8 (.int .i64 v) = (rorC xs v).toArray := by
  rw [List.setIfInBounds_toArray, rorC, rorC, List.set_append_right _ _ (by simp; omega)]
  simp [h]

section
variable {w w' : World} {g : Nat} {xs : List Int} {pc : Int}
end

theorem pow2 (k : Nat) (h : k ≤ 61) : (1 : Int) ≤ 2 ^ k ∧ (2 : Int) ^ k ≤ 2305843009213693952 ∧ (2 : Int) ^ (k + 1) = 2 ^ k * 2 := by
  have a := Nat.one_le_two_pow (n := k)
  have b := Nat.pow_le_pow_right (n := 2) (by omega) h
  have e : ((2 ^ k : Nat) : Int) = (2 : Int) ^ k := by simp
  exact ⟨by omega, by omega, Int.pow_succ 2 k⟩

theorem bit_le (x k : Nat) : x / 2 ^ k % 2 = 0 ∨ x / 2 ^ k % 2 = 1 := by omega

theorem half_bit (x k : Nat) (hx : (x : Int) < 4294967296) : (wrap64 ((x : Int) / 2 ^ k)).tmod 2 = ((x / 2 ^ k % 2 : Nat) : Int) := by
  have e : (x : Int) / 2 ^ k = ((x / 2 ^ k : Nat) : Int) := by simp
  have hle : x / 2 ^ k ≤ x := Nat.div_le_self _ _
  rw [e]
  generalize x / 2 ^ k = q at *
  rw [IntWalk.wrap64_in _ (by omega), Int.tmod_eq_emod_of_nonneg (by omega)]
  omega

end Go.Proofs.Ytpinpipjlongaaa
