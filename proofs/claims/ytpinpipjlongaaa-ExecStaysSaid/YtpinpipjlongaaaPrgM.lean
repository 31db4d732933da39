/- Programs: a list of instructions and two places; their cells. -/
import Derived.Test.YtpinpipjlongaaaRow
import Derived.Test.YtpinpipjlongaaaInstA
namespace Go.Proofs.Ytpinpipjlongaaa
open Go.ChangeShapes Go.WideShapes Go.ChangeAt Go.RowKit
set_option linter.unusedVariables false

/-- A program. -/
structure Prg where
  l : List Ins
  lo : Int
  un : Int
def Prg.zero : Prg := ⟨[], 0, 0⟩

/-- May a program be? -/
def prgB (c : Prg) : Bool := decide (1 ≤ c.l.length) && (decide (c.l.length ≤ 64) && (decide (0 ≤ c.lo) && (decide (0 ≤ c.un) && (decide (c.lo < c.l.length) && (decide (c.un < c.l.length) && c.l.all fun i => rightB i c.l.length)))))

/-- A program is right, in the program's own order. -/
theorem prgB_is (c : Prg) (h1 : 1 ≤ c.l.length) (h2 : c.l.length ≤ 64) : prgB c = ((c.l.all fun i => rightB i c.l.length) && ((decide (0 ≤ c.lo) && decide (c.lo < c.l.length)) && (decide (0 ≤ c.un) && decide (c.un < c.l.length)))) := by
  unfold prgB
  simp only [h1, h2, decide_true, Bool.true_and]
  generalize (c.l.all fun i => rightB i c.l.length) = x
  generalize decide (0 ≤ c.lo) = a
  generalize decide (0 ≤ c.un) = b
  generalize decide (c.lo < c.l.length) = d
  generalize decide (c.un < c.l.length) = e
  cases a <;> cases b <;> cases d <;> cases e <;> cases x <;> rfl
theorem prgB_few {c : Prg} (h : ¬ (1 ≤ c.l.length ∧ c.l.length ≤ 64)) : prgB c = false := by
  unfold prgB
  by_cases h1 : 1 ≤ c.l.length
  · have h2 : ¬ c.l.length ≤ 64 := fun h2 => h ⟨h1, h2⟩
    simp [h2]
  · simp [h1]

/-- An instruction's cells; a program's. -/
def insC (i : Ins) : List Value := [.int .i64 i.op, .int .i64 i.d, .int .i64 i.s, .int .i64 i.t, .int .i64 i.u, .int .i64 i.a, .int .u32 i.k, .int .i64 i.pl]
theorem insC_len (i : Ins) : (insC i).length = 8 := rfl
def progC (l : List Ins) : List Value := l.flatMap insC
theorem progC_snoc (l : List Ins) (i : Ins) : progC (l ++ [i]) = progC l ++ insC i := by simp [progC]
theorem progC_len : ∀ l : List Ins, (progC l).length = l.length * 8
  | [] => rfl
  | i :: l => by
    have := progC_len l
    unfold progC at *
    simp [this, insC_len]
    omega
theorem insC_one (i : Ins) : ∀ u ∈ insC i, u.oneCell' = true := by
  intro u hu
  simp only [insC, List.mem_cons, List.not_mem_nil, or_false] at hu
  rcases hu with rfl | rfl | rfl | rfl | rfl | rfl | rfl | rfl <;> rfl
theorem insInfo : (Try.prog.info? 55).map (fun i => (i.zero, i.size, i.bytes)) = some (some (.agg #[.int .i64 0, .int .i64 0, .int .i64 0, .int .i64 0, .int .i64 0, .int .i64 0, .int .u32 0, .int .i64 0]), 8, 64) := by kernel_rfl

/-- Element k of lists laid one behind the other, each as long. -/
theorem flat_at {α : Type} (f : α → List Value) (n : Nat) (hf : ∀ x, (f x).length = n) : ∀ (l : List α) (k j : Nat) (x : α), l[k]? = some x → j < n → (l.flatMap f)[k * n + j]? = (f x)[j]?
  | [], k, j, x, h, _ => by simp at h
  | y :: l, 0, j, x, h, hj => by
    simp at h
    subst h
    simp [List.getElem?_append, hf, hj]
  | y :: l, k + 1, j, x, h, hj => by
    have ih := flat_at f n hf l k j x (by simpa using h) hj
    rw [← ih]
    have e : (k + 1) * n + j = n + (k * n + j) := by rw [Nat.add_mul]; omega
    rw [e, List.flatMap_cons, List.getElem?_append_right (by rw [hf]; omega), hf]
    congr 1
    omega
theorem progC_at {l : List Ins} {k : Nat} {i : Ins} (h : l[k]? = some i) {j : Nat} (hj : j < 8) : (progC l)[k * 8 + j]? = (insC i)[j]? := flat_at insC 8 insC_len l k j i h hj

/-- The value v is a program; its instructions lie in a row of their own, at base or beyond. -/
def Pg (w : World) (base : Nat) (v : Value) (c : Prg) : Prop := ∃ sl, v = .agg #[sl, .int .i64 c.lo, .int .i64 c.un] ∧ w.ownsRow base 55 8 sl c.l.length (progC c.l)
theorem within_of_below {w w' : World} (h : Below w.heap.size w w') : Within w w' (fun _ => False) := ⟨h.os, h.tape, h.output, h.size, fun i hi _ => h.block i hi⟩
/-- Three cells of a block are others. -/
def put3 (y : World) (g : Nat) (a b c : Value) : World := ((y.setCell ⟨g, 0, none⟩ a).setCell ⟨g, 1, none⟩ b).setCell ⟨g, 2, none⟩ c
theorem put3_bk {y : World} {g : Nat} {t : TypeId} {x0 x1 x2 : Value} (h : Bk y g t #[x0, x1, x2]) (a b c : Value) : Bk (put3 y g a b c) g t #[a, b, c] := by
  have h8 := ((h.put 0 a).put 1 b).put 2 c
  unfold put3
  simpa only [List.setIfInBounds_toArray, List.set_cons_zero, List.set_cons_succ] using h8
theorem put3_below {B : Nat} {w y : World} {g : Nat} (h : Below B w y) (hg : B ≤ g) (a b c : Value) : Below B w (put3 y g a b c) := ((h.setCell hg _).setCell hg _).setCell hg _

end Go.Proofs.Ytpinpipjlongaaa
