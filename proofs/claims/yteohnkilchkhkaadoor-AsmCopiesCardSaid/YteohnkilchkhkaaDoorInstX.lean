/- The document's Register, Number. -/
import Derived.Test.YteohnkilchkhkaaDoorInstB
namespace Go.Proofs.YteohnkilchkhkaaDoor
open Go.ChangeShapes Go.WideShapes Go.ChangeAt Go.RowKit
set_option linter.unusedVariables false

/-- The register that a word is; -1: none. -/
def regL (s : List UInt8) : Int :=
  if s.length = 2 ∧ (s.getD 0 0).toNat = 114 ∧ 48 ≤ (s.getD 1 0).toNat ∧ (s.getD 1 0).toNat ≤ 55 then ((s.getD 1 0).toNat : Int) - 48 else -1

/-- The number that digits spell, behind acc; none: one is none. -/
def numFrom (acc : Int) : List UInt8 → Option Int
  | [] => some acc
  | c :: r => if 48 ≤ c.toNat ∧ c.toNat ≤ 57 then numFrom (acc * 10 + ((c.toNat : Int) - 48)) r else none
def numEnd : Option Int → Int
  | none => -1
  | some n => if 4294967295 < n then -1 else n
/-- The number that a word is; -1: none. -/
def numL (s : List UInt8) : Int :=
  if s = [] ∨ 10 < s.length ∨ (1 < s.length ∧ (s.getD 0 0).toNat = 48) then -1 else numEnd (numFrom 0 s)

theorem numFrom_step (acc : Int) (s : List UInt8) (k : Nat) (h : k < s.length) :
    numFrom acc (s.drop k) = if 48 ≤ (s.getD k 0).toNat ∧ (s.getD k 0).toNat ≤ 57 then numFrom (acc * 10 + (((s.getD k 0).toNat : Int) - 48)) (s.drop (k + 1)) else none := by
  rw [List.drop_eq_getElem_cons h]
  simp [numFrom, h]

/-- So much can digits spell. -/
def roof : Nat → Int
  | 0 => 1
  | n + 1 => roof n * 10
theorem roof_le : ∀ k, k ≤ 10 → 1 ≤ roof k ∧ roof k ≤ 10000000000 := by
  intro k hk
  have : k = 0 ∨ k = 1 ∨ k = 2 ∨ k = 3 ∨ k = 4 ∨ k = 5 ∨ k = 6 ∨ k = 7 ∨ k = 8 ∨ k = 9 ∨ k = 10 := by omega
  rcases this with rfl | rfl | rfl | rfl | rfl | rfl | rfl | rfl | rfl | rfl | rfl <;> decide

end Go.Proofs.YteohnkilchkhkaaDoor
