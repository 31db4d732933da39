/- Entries of a trace: their cells, lists of them in memory, wherever they lie. -/
import Derived.Test.YtipekdeghelpaaaRow
namespace Go.Proofs.Ytipekdeghelpaaa
open Go.ChangeShapes Go.WideShapes Go.ChangeAt Go.RowKit
set_option linter.unusedVariables false

/-- An entry. -/
structure En where
  kind : Int
  th : Int
  now : Int
theorem En.ext {x y : En} (h1 : x.kind = y.kind) (h2 : x.th = y.th) (h3 : x.now = y.now) : x = y := by cases x; cases y; simp_all
/-- Each number fits an int. -/
structure En.Wf (x : En) : Prop where
  k0 : -9223372036854775808 ≤ x.kind
  k1 : x.kind ≤ 9223372036854775807
  t0 : -9223372036854775808 ≤ x.th
  t1 : x.th ≤ 9223372036854775807
  n0 : -9223372036854775808 ≤ x.now
  n1 : x.now ≤ 9223372036854775807
/-- Alike or not. -/
def eqE (x y : En) : Bool := decide (x.kind = y.kind) && (decide (x.th = y.th) && decide (x.now = y.now))
theorem eqE_iff {x y : En} : eqE x y = true ↔ x = y := by
  cases x; cases y; simp [eqE]
theorem eqE_self (x : En) : eqE x x = true := eqE_iff.2 rfl
/-- An entry's cells; as a value. -/
def enC (x : En) : List Value := [.int .i64 x.kind, .int .i64 x.th, .int .i64 x.now]
def enV (x : En) : Value := .agg #[.int .i64 x.kind, .int .i64 x.th, .int .i64 x.now]
theorem enC_len (x : En) : (enC x).length = 3 := rfl
theorem enC_one (x : En) : ∀ u ∈ enC x, u.oneCell' = true := by
  intro u hu
  simp only [enC, List.mem_cons, List.not_mem_nil, or_false] at hu
  rcases hu with rfl | rfl | rfl <;> rfl
/-- The cells of a list of entries. -/
def ensC (l : List En) : List Value := l.flatMap enC
theorem ensC_snoc (l : List En) (x : En) : ensC (l ++ [x]) = ensC l ++ enC x := by simp [ensC]
theorem ensC_app (l m : List En) : ensC (l ++ m) = ensC l ++ ensC m := by simp [ensC]
theorem ensC_len : ∀ l : List En, (ensC l).length = l.length * 3
  | [] => rfl
  | x :: l => by
    have := ensC_len l
    unfold ensC at *
    simp [this, enC_len]
    omega
theorem ensC_at : ∀ {l : List En} {k j : Nat} {x : En}, l[k]? = some x → j < 3 → (ensC l)[k * 3 + j]? = (enC x)[j]?
  | [], k, j, x, h, _ => by simp at h
  | y :: l, 0, j, x, h, hj => by
    simp at h
    subst h
    simp [ensC, List.getElem?_append, enC_len, hj]
  | y :: l, k + 1, j, x, h, hj => by
    have ih := ensC_at (l := l) (k := k) (j := j) (x := x) (by simpa using h) hj
    rw [← ih]
    have e : (k + 1) * 3 + j = 3 + (k * 3 + j) := by omega
    unfold ensC
    rw [e, List.flatMap_cons, List.getElem?_append_right (by rw [enC_len]; omega), enC_len]
    congr 1
    omega
theorem ensC_one (l : List En) : ∀ u ∈ ensC l, u.oneCell' = true := by
  intro u hu
  obtain ⟨x, _, h⟩ := List.mem_flatMap.1 hu
  exact enC_one x u h

/-- The slice at a has just the entries l. -/
def EnS (w : World) (a : Option Addr) (l : List En) : Prop :=
  0 < l.length → ∃ b off, a = some ⟨b, off, none⟩ ∧ b < w.heap.size ∧ ∀ k x, l[k]? = some x → ∀ j, j < 3 → w.cell? ⟨b, off + k * 3 + j, none⟩ = (enC x)[j]?
section
variable {w w' : World} {a : Option Addr} {l : List En} {v : Value}
theorem EnS.below (h : EnS w a l) (hb : Below w.heap.size w w') : EnS w' a l := by
  intro h0
  obtain ⟨b, off, e, hlt, hc⟩ := h h0
  exact ⟨b, off, e, Nat.lt_of_lt_of_le hlt hb.size, fun k x hk j hj => (hb.cell (p := ⟨b, off + k * 3 + j, none⟩) hlt).trans (hc k x hk j hj)⟩
theorem EnS.nil (w : World) (a : Option Addr) : EnS w a [] := fun h => absurd h (by simp)
/-- Entry k's cells. -/
theorem EnS.at_ (h : EnS w a l) {k : Nat} {x : En} (hk : l[k]? = some x) : ∃ b off, a = some ⟨b, off, none⟩ ∧ b < w.heap.size ∧ w.cell? ⟨b, off + k * 3, none⟩ = some (.int .i64 x.kind) ∧ w.cell? ⟨b, off + k * 3 + 1, none⟩ = some (.int .i64 x.th) ∧ w.cell? ⟨b, off + k * 3 + 2, none⟩ = some (.int .i64 x.now) := by
  have hkl := (List.getElem?_eq_some_iff.1 hk).1
  obtain ⟨b, off, e, hlt, hc⟩ := h (by omega)
  exact ⟨b, off, e, hlt, hc k x hk 0 (by omega), hc k x hk 1 (by omega), hc k x hk 2 (by omega)⟩
/-- All cells, one behind the other. -/
theorem EnS.all (h : EnS w a l) (h0 : 0 < l.length) : ∃ b off, a = some ⟨b, off, none⟩ ∧ ∀ i, i < l.length * 3 → w.cell? ⟨b, off + i, none⟩ = (ensC l)[i]? := by
  obtain ⟨b, off, e, hlt, hc⟩ := h h0
  refine ⟨b, off, e, fun i hi => ?_⟩
  have hk : i / 3 < l.length := by omega
  have hg := List.getElem?_eq_getElem hk
  have h1 := hc _ _ hg (i % 3) (by omega)
  have e2 : off + i / 3 * 3 + i % 3 = off + i := by omega
  rw [e2] at h1
  rw [h1, ← ensC_at hg (show i % 3 < 3 by omega)]
  congr 1
  omega
theorem ens_own {t : TypeId} {base n cap : Nat} (h : w.ownsRow base t 3 (.slice a n cap) n (ensC l)) (hn : n = l.length) : EnS w a l := by
  subst hn
  intro h0
  obtain ⟨a2, cap2, e, _, _, hg⟩ := own_is h
  simp only [Value.slice.injEq] at e
  obtain ⟨rfl, -, rfl⟩ := e
  obtain ⟨g, rfl, _, _, hlt, _, hc⟩ := hg h0
  refine ⟨g, 0, rfl, hlt, fun k x hk j hj => ?_⟩
  have hkl := (List.getElem?_eq_some_iff.1 hk).1
  rw [Nat.zero_add, hc _ (by omega), ensC_at hk hj]
end

/-- A slice of entries of the call's own: v has just the entries l, in a row at base or beyond (or nil). -/
def EnO (base : Nat) (t : TypeId) (w : World) (v : Value) (l : List En) : Prop := w.ownsRow base t 3 v l.length (ensC l)
section
variable {base : Nat} {t : TypeId} {w w' : World} {l : List En} {v : Value}
theorem EnO.nil (base : Nat) (t : TypeId) (w : World) : EnO base t w (.slice none 0 0) [] := World.ownsRow_nil _ _ _ _
theorem EnO.is (h : EnO base t w v l) : ∃ a cap, v = .slice a l.length cap ∧ l.length ≤ cap ∧ cap ≤ maxLen ∧ EnS w a l := by
  obtain ⟨a, cap, rfl, h1, h2, _⟩ := own_is h
  exact ⟨a, cap, rfl, h1, h2, ens_own h rfl⟩
theorem EnO.within {S : Nat → Prop} (h : EnO base t w v l) (hk : Within w w' S) (hn : ∀ g, v.ownBlock = some g → ¬ S g) : EnO base t w' v l := own_within h hk hn
theorem EnO.alloc (h : EnO base t w v l) (o : Obj) : EnO base t (w.alloc o) v l := World.ownsRow.alloc h o
theorem EnO.below (h : EnO base t w v l) (hb : Below w.heap.size w w') : EnO base t w' v l :=
  own_within h (S := fun _ => False) ⟨hb.os, hb.tape, hb.output, hb.size, fun i hi _ => hb.block i hi⟩ (fun _ _ h => h)
theorem EnO.own_lt (h : EnO base t w v l) : ∀ g, v.ownBlock = some g → base ≤ g ∧ g < w.heap.size := by
  intro g e
  obtain ⟨cs, hb⟩ := own_bk h e
  rcases h.2 with ⟨rfl, _⟩ | ⟨g', cap, cur, rfl, hb', _⟩
  · cases e
  · simp only [Value.ownBlock, Option.some.injEq] at e
    subst e
    exact ⟨hb', hb.lt⟩
end

theorem take_at {α : Type} (l : List α) (k : Nat) (h : k < l.length) : l.take (k + 1) = l.take k ++ [l[k]] := (List.take_append_getElem h).symm
/-- What is so of each number below n is so of a list's elements. -/
theorem list_of {α : Type} {P : Nat → α → Prop} : ∀ n : Nat, (∀ i, i < n → ∃ x, P i x) → ∃ l : List α, l.length = n ∧ ∀ (k : Nat) x, l[k]? = some x → P k x
  | 0, _ => ⟨[], rfl, by simp⟩
  | n + 1, h => by
    obtain ⟨l, hl, hp⟩ := list_of n fun i hi => h i (by omega)
    obtain ⟨x, hx⟩ := h n (by omega)
    refine ⟨l ++ [x], by simp [hl], fun k y hk => ?_⟩
    by_cases hkn : k < n
    · rw [List.getElem?_append_left (by omega)] at hk
      exact hp k y hk
    · have hlt := (List.getElem?_eq_some_iff.1 hk).1
      simp [hl] at hlt
      obtain rfl : k = n := by omega
      rw [List.getElem?_append_right (by omega), hl, Nat.sub_self] at hk
      simp at hk
      subst hk
      exact hx
theorem within_of_below {w w' : World} (h : Below w.heap.size w w') : Within w w' (fun _ => False) := ⟨h.os, h.tape, h.output, h.size, fun i hi _ => h.block i hi⟩
/-- Three cells of a block are others. -/
def put3 (y : World) (g : Nat) (a b c : Value) : World := ((y.setCell ⟨g, 0, none⟩ a).setCell ⟨g, 1, none⟩ b).setCell ⟨g, 2, none⟩ c
theorem put3_bk {y : World} {g : Nat} {t : TypeId} {x0 x1 x2 : Value} (h : Bk y g t #[x0, x1, x2]) (a b c : Value) : Bk (put3 y g a b c) g t #[a, b, c] := by
  have h8 := ((h.put 0 a).put 1 b).put 2 c
  unfold put3
  simpa only [List.setIfInBounds_toArray, List.set_cons_zero, List.set_cons_succ] using h8
theorem put3_below {B : Nat} {w y : World} {g : Nat} (h : Below B w y) (hg : B ≤ g) (a b c : Value) : Below B w (put3 y g a b c) := ((h.setCell hg _).setCell hg _).setCell hg _

end Go.Proofs.Ytipekdeghelpaaa
