/- The document's Digits, r. -/
import Derived.Test.YteohnkilchkhkaaDoorInstC
import Derived.Deep.RegionLaw
import Derived.Laws.IdiomStrings
namespace Go.Proofs.YteohnkilchkhkaaDoor
open Go.ChangeShapes Go.WideShapes Go.ChangeAt Go.RowKit
set_option linter.unusedVariables false

theorem run_str1 (W : World) (b : Nat) (c : UInt8) (h : W.cell? ⟨b, 0, none⟩ = some (.int .u8 (c.toNat : Int))) :
    (convert 105 9 (.slice (some ⟨b, 0, none⟩) 1 1)).run Tryd.prog W = .ok (.string ⟨#[c]⟩) W :=
  run_convert_bytes_back W 105 9 5 ⟨b, 0, none⟩ 1 [c] Tryd.underlying105 Tryd.underlying5 Tryd.underlying9 (fun j hj => by
    simp only [List.length_cons, List.length_nil] at hj
    obtain rfl : j = 0 := by omega
    have e : (⟨b, 0, none⟩ : Addr).add 0 = ⟨b, 0, none⟩ := by unfold Addr.add; simp
    rw [e]
    exact h)
theorem dec_len (n : Nat) (h : n < 5000000000) : (Lib.decDigits n).length ≤ 30 := by
  have := itoa_len n (by omega) (by omega)
  unfold Lib.itoa at this
  rw [if_neg (by omega)] at this
  simpa using this

/-- A register's word, with the blank ahead. -/
def rL (n : Nat) : List UInt8 := [32, 114] ++ Lib.decDigits n
end Go.Proofs.YteohnkilchkhkaaDoor
