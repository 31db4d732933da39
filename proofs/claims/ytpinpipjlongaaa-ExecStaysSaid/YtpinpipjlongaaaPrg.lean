/- Programs in memory: a slice of instructions that lies anywhere; alike or not. -/
import Derived.Test.YtpinpipjlongaaaPrgM
import Derived.Test.YtpinpipjlongaaaInstR
namespace Go.Proofs.Ytpinpipjlongaaa
open Go.ChangeShapes Go.WideShapes Go.ChangeAt Go.RowKit
set_option linter.unusedVariables false

/-- The slice at a has just the instructions l. -/
def Sli (w : World) (a : Option Addr) (l : List Ins) : Prop :=
  0 < l.length → ∃ b off, a = some ⟨b, off, none⟩ ∧ b < w.heap.size ∧ ∀ k i, l[k]? = some i → ∀ j, j < 8 → w.cell? ⟨b, off + k * 8 + j, none⟩ = (insC i)[j]?
/-- The value v is the program c; its instructions may lie anywhere. -/
def Pv (w : World) (v : Value) (c : Prg) : Prop := ∃ a cap, v = .agg #[.slice a c.l.length cap, .int .i64 c.lo, .int .i64 c.un] ∧ c.l.length ≤ cap ∧ cap ≤ maxLen ∧ (a = none → cap = 0) ∧ Sli w a c.l
section
variable {w w' : World} {a : Option Addr} {l : List Ins} {v : Value} {c : Prg}
theorem Sli.below (h : Sli w a l) (hb : Below w.heap.size w w') : Sli w' a l := by
  intro h0
  obtain ⟨b, off, e, hlt, hc⟩ := h h0
  exact ⟨b, off, e, Nat.lt_of_lt_of_le hlt hb.size, fun k i hk j hj => (hb.cell (p := ⟨b, off + k * 8 + j, none⟩) hlt).trans (hc k i hk j hj)⟩
theorem Pv.below (h : Pv w v c) (hb : Below w.heap.size w w') : Pv w' v c := by
  obtain ⟨a, cap, e, h1, h2, h4, h3⟩ := h
  exact ⟨a, cap, e, h1, h2, h4, h3.below hb⟩
theorem sli_own {t : TypeId} {base cap : Nat} (h : w.ownsRow base t 8 (.slice a l.length cap) l.length (progC l)) : Sli w a l := by
  intro h0
  obtain ⟨a2, cap2, e, _, _, hg⟩ := own_is h
  simp only [Value.slice.injEq] at e
  obtain ⟨rfl, -, rfl⟩ := e
  obtain ⟨g, rfl, _, _, hlt, _, hc⟩ := hg h0
  refine ⟨g, 0, rfl, hlt, fun k i hk j hj => ?_⟩
  have hkl := (List.getElem?_eq_some_iff.1 hk).1
  rw [Nat.zero_add, hc _ (by omega), progC_at hk hj]
theorem own_nil {t : TypeId} {base n cap size : Nat} {xs : List Value} (h : w.ownsRow base t size (.slice a n cap) n xs) (e : a = none) : cap = 0 := by
  subst e
  rcases h.2 with ⟨h, _⟩ | ⟨g, c, cur, h, _⟩
  · injection h
  · injection h with h; cases h
theorem Pg.pv {base : Nat} (h : Pg w base v c) : Pv w v c := by
  obtain ⟨sl, rfl, ho⟩ := h
  obtain ⟨a, cap, rfl, h1, h2, _⟩ := own_is ho
  exact ⟨a, cap, rfl, h1, h2, own_nil ho, sli_own ho⟩
/-- Instruction k's cells. -/
theorem Sli.at_ (h : Sli w a l) {k : Nat} {i : Ins} (hk : l[k]? = some i) : ∃ b off, a = some ⟨b, off, none⟩ ∧ b < w.heap.size ∧ w.cell? ⟨b, off + k * 8, none⟩ = some (.int .i64 i.op) ∧ w.cell? ⟨b, off + k * 8 + 1, none⟩ = some (.int .i64 i.d) ∧ w.cell? ⟨b, off + k * 8 + 2, none⟩ = some (.int .i64 i.s) ∧ w.cell? ⟨b, off + k * 8 + 3, none⟩ = some (.int .i64 i.t) ∧
    w.cell? ⟨b, off + k * 8 + 4, none⟩ = some (.int .i64 i.u) ∧ w.cell? ⟨b, off + k * 8 + 5, none⟩ = some (.int .i64 i.a) ∧ w.cell? ⟨b, off + k * 8 + 6, none⟩ = some (.int .u32 i.k) ∧ w.cell? ⟨b, off + k * 8 + 7, none⟩ = some (.int .i64 i.pl) := by
  have hkl := (List.getElem?_eq_some_iff.1 hk).1
  obtain ⟨b, off, e, hlt, hc⟩ := h (by omega)
  exact ⟨b, off, e, hlt, hc k i hk 0 (by omega), hc k i hk 1 (by omega), hc k i hk 2 (by omega), hc k i hk 3 (by omega), hc k i hk 4 (by omega), hc k i hk 5 (by omega), hc k i hk 6 (by omega), hc k i hk 7 (by omega)⟩
end

/-- Alike or not. -/
def sameL : List Ins → List Ins → Bool
  | [], [] => true
  | i :: l, j :: m => eqI i j && sameL l m
  | _, _ => false
theorem sameL_iff : ∀ l m : List Ins, sameL l m = true ↔ l = m
  | [], [] => by simp [sameL]
  | [], _ :: _ => by simp [sameL]
  | _ :: _, [] => by simp [sameL]
  | i :: l, j :: m => by simp [sameL, eqI_iff, sameL_iff l m]
theorem sameL_len {l m : List Ins} (h : l.length ≠ m.length) : sameL l m = false := by
  rw [Bool.eq_false_iff]
  intro e
  exact h (by rw [(sameL_iff l m).1 e])
def sameP (c d : Prg) : Bool := decide (c.lo = d.lo) && (decide (c.un = d.un) && sameL c.l d.l)
theorem sameP_iff (c d : Prg) : sameP c d = true ↔ c = d := by
  obtain ⟨l, lo, un⟩ := c
  obtain ⟨m, lo2, un2⟩ := d
  simp [sameP, sameL_iff]
  constructor
  · rintro ⟨h1, h2, h3⟩; exact ⟨h3, h1, h2⟩
  · rintro ⟨h1, h2, h3⟩; exact ⟨h2, h3, h1⟩
theorem sameL_drop (l m : List Ins) (k : Nat) (hk : k < l.length) (hm : k < m.length) : sameL (l.drop k) (m.drop k) = (eqI l[k] m[k] && sameL (l.drop (k + 1)) (m.drop (k + 1))) := by
  rw [List.drop_eq_getElem_cons hk, List.drop_eq_getElem_cons hm, sameL]
end Go.Proofs.Ytpinpipjlongaaa
