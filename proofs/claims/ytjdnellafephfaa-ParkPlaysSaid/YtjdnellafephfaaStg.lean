/- Two things that change one behind the other, and a third that stays: what the world is at each stage of a region. Over any program. -/
import Derived.Test.YtjdnellafephfaaFlow
namespace Go.Proofs.Ytjdnellafephfaa
open Go.ChangeShapes Go.WideShapes Go.ChangeAt Go.RowKit

/-- At stage k: A0 till stage c1, A1 from there on; B0 till c2, B1 from there on; C all the while. -/
def Stg (A0 A1 B0 B1 C : World → Prop) (c1 c2 k : Nat) (W : World) : Prop := (if k < c1 then A0 W else A1 W) ∧ (if k < c2 then B0 W else B1 W) ∧ C W
section
variable {A0 A1 B0 B1 C : World → Prop} {c1 c2 k : Nat} {W W' : World}
theorem stg_next (h1 : k + 1 ≠ c1) (h2 : k + 1 ≠ c2) (h : Stg A0 A1 B0 B1 C c1 c2 k W) : Stg A0 A1 B0 B1 C c1 c2 (k + 1) W := by
  obtain ⟨a, b, c⟩ := h
  refine ⟨?_, ?_, c⟩
  · by_cases e : k < c1
    · rw [if_pos e] at a; rw [if_pos (by omega)]; exact a
    · rw [if_neg e] at a; rw [if_neg (by omega)]; exact a
  · by_cases e : k < c2
    · rw [if_pos e] at b; rw [if_pos (by omega)]; exact b
    · rw [if_neg e] at b; rw [if_neg (by omega)]; exact b
theorem stg_a (h1 : k < c1) (h2 : k < c2) (h : Stg A0 A1 B0 B1 C c1 c2 k W) : A0 W ∧ B0 W ∧ C W := by unfold Stg at h; rw [if_pos h1, if_pos h2] at h; exact h
theorem stg_b (h1 : ¬ k < c1) (h2 : k < c2) (h : Stg A0 A1 B0 B1 C c1 c2 k W) : A1 W ∧ B0 W ∧ C W := by unfold Stg at h; rw [if_neg h1, if_pos h2] at h; exact h
theorem stg_c (h1 : ¬ k < c1) (h2 : ¬ k < c2) (h : Stg A0 A1 B0 B1 C c1 c2 k W) : A1 W ∧ B1 W ∧ C W := by unfold Stg at h; rw [if_neg h1, if_neg h2] at h; exact h
theorem stg_of_a (h1 : k < c1) (h2 : k < c2) (h : A0 W ∧ B0 W ∧ C W) : Stg A0 A1 B0 B1 C c1 c2 k W := by unfold Stg; rw [if_pos h1, if_pos h2]; exact h
theorem stg_of_b (h1 : ¬ k < c1) (h2 : k < c2) (h : A1 W ∧ B0 W ∧ C W) : Stg A0 A1 B0 B1 C c1 c2 k W := by unfold Stg; rw [if_neg h1, if_pos h2]; exact h
theorem stg_of_c (h1 : ¬ k < c1) (h2 : ¬ k < c2) (h : A1 W ∧ B1 W ∧ C W) : Stg A0 A1 B0 B1 C c1 c2 k W := by unfold Stg; rw [if_neg h1, if_neg h2]; exact h
theorem stg_mono (hA0 : A0 W → A0 W') (hA1 : A1 W → A1 W') (hB0 : B0 W → B0 W') (hB1 : B1 W → B1 W') (hC : C W → C W') (h : Stg A0 A1 B0 B1 C c1 c2 k W) : Stg A0 A1 B0 B1 C c1 c2 k W' := by
  obtain ⟨a, b, c⟩ := h
  refine ⟨?_, ?_, hC c⟩
  · split
    · rename_i e; rw [if_pos e] at a; exact hA0 a
    · rename_i e; rw [if_neg e] at a; exact hA1 a
  · split
    · rename_i e; rw [if_pos e] at b; exact hB0 b
    · rename_i e; rw [if_neg e] at b; exact hB1 b
theorem stg_any {X : Prop} (hB0 : B0 W → X) (hB1 : B1 W → X) (h : Stg A0 A1 B0 B1 C c1 c2 k W) : X ∧ C W := by
  obtain ⟨a, b, c⟩ := h
  refine ⟨?_, c⟩
  split at b
  · exact hB0 b
  · exact hB1 b
end
end Go.Proofs.Ytjdnellafephfaa
