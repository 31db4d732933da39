/- Contracts of the leaf functions of inst: form, bounds, get, set. -/
import Derived.Test.YtmjmedbepmdjcaaProg
import Derived.Test.YtmjmedbepmdjcaaInstM
import Derived.Lib.Hide
import Derived.WalkKit
import Derived.ProofKit
import Derived.WalkLawsBesides
namespace Go.Proofs.Ytmjmedbepmdjcaa
open Go.ChangeShapes Go.WideShapes Go.ChangeAt Go.RowKit
set_option linter.unusedVariables false

/-- An instruction as a value. -/
def iv (i : Ins) : Value := .agg #[.int .i64 i.op, .int .i64 i.d, .int .i64 i.s, .int .i64 i.t, .int .i64 i.u, .int .i64 i.a, .int .u32 i.k, .int .i64 i.pl]
/-- A list of bytes as a string. -/
def bs (l : List UInt8) : Value := .string ⟨l.toArray⟩

theorem ret2_str (a b c d : List UInt8) (h1 : a = c) (h2 : b = d) : Ending.returned (.tuple #[.string ⟨a.toArray⟩, .string ⟨b.toArray⟩]) = .returned (.tuple #[bs c, bs d]) := by rw [h1, h2]; rfl

/-- One of the memory. -/
def memB (op : Int) : Bool := decide (16 ≤ op) && decide (op ≤ 23)

theorem cMemory (i : Ins) (w : World) :
    Calls Try.prog 22 #[iv i] w fun e w' => e = .returned (.bool (memB i.op)) ∧ Below w.heap.size w w' := by
  obtain ⟨op, d, s, t, u, a, k, pl⟩ := i
  unfold iv
  by_cases h : 16 ≤ op
  · by_cases h2 : op ≤ 23
    · have E := Lib.hid (show memB op = true by simp [memB, h, h2])
      go_enter Try.func22, Try.ntmps22
      go_wp2
      go_ret
      exact ⟨by rw [E.out]; rfl, (Below.refl _ _).alloc (Nat.le_refl _) _⟩
    · have E := Lib.hid (show memB op = false by simp [memB, h2])
      have h3 : decide (op ≤ 23) = false := by simp [h2]
      go_enter Try.func22, Try.ntmps22
      go_wp2
      go_ret
      exact ⟨by rw [E.out]; rfl, (Below.refl _ _).alloc (Nat.le_refl _) _⟩
  · have E := Lib.hid (show memB op = false by simp [memB, h])
    have h3 : decide (op ≥ 16) = false := by simp; omega
    go_enter Try.func22, Try.ntmps22
    go_wp2
    go_ret
    exact ⟨by rw [E.out]; rfl, (Below.refl _ _).alloc (Nat.le_refl _) _⟩

end Go.Proofs.Ytmjmedbepmdjcaa
