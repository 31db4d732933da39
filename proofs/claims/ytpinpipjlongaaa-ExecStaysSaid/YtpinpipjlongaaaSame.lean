/- slices.Equal of instructions, asm.Same, the document's Same. -/
import Derived.Test.YtpinpipjlongaaaPrg
import Derived.Deep.QuietTactic
import Derived.Deep.Cut
import Derived.BigQuiet
namespace Go.Proofs.Ytpinpipjlongaaa
open Go.ChangeShapes Go.WideShapes Go.ChangeAt Go.RowKit
set_option linter.unusedVariables false

theorem run_neI (i j : Ins) (w : World) : (binOp .neq 55 (iv i) (iv j)).run Try.prog w = .ok (.bool (!eqI i j)) w := by
  unfold iv
  have hu := Try.underlying55
  go_simp
  unfold eqI
  repeat' split
  all_goals simp [*]
theorem run_neJ (i j : Ins) (w : World) : (binOp .neq 87 (iv i) (iv j)).run Try.prog w = .ok (.bool (!eqI i j)) w := by
  unfold iv
  have hu := Try.underlying87
  go_simp
  unfold eqI
  repeat' split
  all_goals simp [*]

/-- Two boxes, for a program each. -/
theorem two_boxes (w : World) (t : TypeId) (xs ys : Array Value) : Below w.heap.size w ((w.alloc (.cells xs t)).alloc (.cells ys t)) ∧ Bk ((w.alloc (.cells xs t)).alloc (.cells ys t)) w.heap.size t xs ∧ Bk ((w.alloc (.cells xs t)).alloc (.cells ys t)) (w.heap.size + 1) t ys := by
  have h := Bk.made (w.alloc (.cells xs t)) t ys
  rw [World.size_alloc] at h
  exact ⟨((Below.refl _ _).alloc (Nat.le_refl _) _).alloc (by simp) _, (Bk.made w t xs).alloc _, h⟩

end Go.Proofs.Ytpinpipjlongaaa
