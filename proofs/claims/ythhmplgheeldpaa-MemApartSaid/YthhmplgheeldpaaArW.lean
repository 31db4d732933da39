/- A struct that came in, of a slice of ints and three numbers, opened. -/
import Derived.Test.YthhmplgheeldpaaArL
import Derived.ProofKit
import Derived.OpenShut
import Derived.Lib.SmallJoins
namespace Go.Proofs.Ythhmplgheeldpaa
open Go.Joins Go.ChangeShapes Go.WideShapes Go.ChangeAt Go.RowKit
set_option linter.unusedVariables false

theorem wf_i64 {n : Int} (h : (Lit.int .i64 n).wf = true) : -9223372036854775808 ≤ n ∧ n ≤ 9223372036854775807 := by
  simp [Lit.wf, IntKind.min, IntKind.max, IntKind.bits, IntKind.signed] at h; omega
section
variable {H : Type} {enc : TypeId × Value → H} {w : World} {base : Nat} {spare : Nat → Bool} {held : Bool} {r : Reach} {b0 : Nat} {v : Value} {d : DataW H} {p : List MemPlace}
/-- A slice of ints that came in. -/
theorem open_sizes {n : Nat} {v : Value} {y : DataW H × List MemPlace} (h : DataW.trod enc Try.prog w base spare held n 22 [v] = some y) : ∃ a cap zs, v = .slice a zs.length cap ∧ Given .i64 w a zs ∧ zs.length ≤ maxLen := by
  rcases open_ints Try.underlying22 Try.underlying3 (by kernel_rfl) h with ⟨hcs, _⟩ | ⟨x, l, c, zs, hcs, _, hl, hm, hz, _, hcell, hwz⟩
  · simp only [List.cons.injEq, and_true] at hcs
    subst hcs
    exact ⟨none, 0, [], rfl, given_nil _ _ _, by simp⟩
  · simp only [List.cons.injEq, and_true] at hcs
    subst hcs
    have hz' : l ≤ zs.length ∧ zs.length ≤ c := by rw [hz]; split <;> omega
    refine ⟨some x, c, zs.take l, ?_, given_of (by omega) hcell, by simp; omega⟩
    rw [List.length_take, Nat.min_eq_left (by omega)]

set_option maxRecDepth 100000 in
theorem open_ask (hv : Value.okWide Try.prog w r b0 40 v) (h : DataW.Trod enc Try.prog w base spare held 40 v d p) :
    ∃ a cap zs x y z, v = .agg #[.slice a (List.length zs) cap, .int .i64 x, .int .u32 y, .int .i64 z] ∧ Given .i64 w a zs ∧ zs.length ≤ maxLen ∧ (-9223372036854775808 ≤ x ∧ x ≤ 9223372036854775807) ∧ (0 ≤ y ∧ y < 4294967296) ∧ (-9223372036854775808 ≤ z ∧ z ≤ 9223372036854775807) := by
  obtain ⟨c0, c1, c2, c3, y0, y1, y2, y3, m, rfl, _, _, hy0, hy1, hy2, hy3⟩ := Joins.open_agg4 Try.underlying40 (by kernel_rfl) (by kernel_rfl) hv h
  obtain ⟨a, cap, zs, rfl, hg, hm⟩ := open_sizes hy0
  obtain ⟨x1, e1, _, w1⟩ := DataW.trod_int Try.underlying3 hy1
  obtain ⟨x2, e2, _, w2⟩ := DataW.trod_int Try.underlying23 hy2
  obtain ⟨x3, e3, _, w3⟩ := DataW.trod_int Try.underlying3 hy3
  simp only [List.cons.injEq, and_true] at e1 e2 e3
  subst e1 e2 e3
  exact ⟨a, cap, zs, x1, x2, x3, rfl, hg, hm, wf_i64 w1, u32_bounds w2, wf_i64 w3⟩

set_option maxRecDepth 100000 in
theorem open_put (hv : Value.okWide Try.prog w r b0 54 v) (h : DataW.Trod enc Try.prog w base spare held 54 v d p) :
    ∃ a cap zs x y z, v = .agg #[.slice a (List.length zs) cap, .int .i64 x, .int .u32 y, .int .u32 z] ∧ Given .i64 w a zs ∧ zs.length ≤ maxLen ∧ (-9223372036854775808 ≤ x ∧ x ≤ 9223372036854775807) ∧ (0 ≤ y ∧ y < 4294967296) ∧ (0 ≤ z ∧ z < 4294967296) := by
  obtain ⟨c0, c1, c2, c3, y0, y1, y2, y3, m, rfl, _, _, hy0, hy1, hy2, hy3⟩ := Joins.open_agg4 Try.underlying54 (by kernel_rfl) (by kernel_rfl) hv h
  obtain ⟨a, cap, zs, rfl, hg, hm⟩ := open_sizes hy0
  obtain ⟨x1, e1, _, w1⟩ := DataW.trod_int Try.underlying3 hy1
  obtain ⟨x2, e2, _, w2⟩ := DataW.trod_int Try.underlying23 hy2
  obtain ⟨x3, e3, _, w3⟩ := DataW.trod_int Try.underlying23 hy3
  simp only [List.cons.injEq, and_true] at e1 e2 e3
  subst e1 e2 e3
  exact ⟨a, cap, zs, x1, x2, x3, rfl, hg, hm, wf_i64 w1, u32_bounds w2, u32_bounds w3⟩
end
end Go.Proofs.Ythhmplgheeldpaa
