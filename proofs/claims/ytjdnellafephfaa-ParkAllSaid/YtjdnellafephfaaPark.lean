/- What each function of layer 11 (park) returns, and what the waits are then: one contract a function, for every state, every thread that there is. -/
import Derived.Test.YtjdnellafephfaaPermitC
import Derived.Deep.QuietTactic
import Derived.BigQuiet
import Derived.StillTailTactics
import Derived.Deep.RegionHeld3
import Derived.RegionTactic
import Derived.Laws.Pointers
namespace Go.Proofs.Ytjdnellafephfaa
open Go.ChangeShapes Go.WideShapes Go.ChangeAt Go.RowKit

/-- Rows of pairs: two cells each. -/
def row2 (xs : List (Int × Int)) : Array Value := (xs.flatMap fun x => [Value.int .i64 x.1, Value.int .i64 x.2]).toArray
theorem flat2_get (xs : List (Int × Int)) (i : Nat) (h : i < xs.length) :
    (xs.flatMap fun x => [Value.int .i64 x.1, Value.int .i64 x.2])[i * 2]? = some (.int .i64 (nthO (0, 0) xs i).1) ∧ (xs.flatMap fun x => [Value.int .i64 x.1, Value.int .i64 x.2])[i * 2 + 1]? = some (.int .i64 (nthO (0, 0) xs i).2) := by
  induction xs generalizing i with
  | nil => simp at h
  | cons x xs ih =>
    cases i with
    | zero => simp [nthO]
    | succ i =>
      have := ih i (by simpa using h)
      rw [show (i + 1) * 2 = i * 2 + 1 + 1 by omega]
      simp only [List.flatMap_cons, List.cons_append, List.nil_append, List.getElem?_cons_succ]
      exact this
theorem flat2_set1 (xs : List (Int × Int)) (i : Nat) (v : Int) (h : i < xs.length) :
    ((xs.flatMap fun x => [Value.int .i64 x.1, Value.int .i64 x.2]).set (i * 2) (.int .i64 v)) = (xs.set i (v, (nthO (0, 0) xs i).2)).flatMap fun x => [Value.int .i64 x.1, Value.int .i64 x.2] := by
  induction xs generalizing i with
  | nil => simp at h
  | cons x xs ih =>
    cases i with
    | zero => simp [nthO]
    | succ i =>
      rw [show (i + 1) * 2 = i * 2 + 1 + 1 by omega]
      simp only [List.flatMap_cons, List.cons_append, List.nil_append, List.set_cons_succ, ih i (by simpa using h)]
      rfl
theorem flat2_set2 (xs : List (Int × Int)) (i : Nat) (v : Int) (h : i < xs.length) :
    ((xs.flatMap fun x => [Value.int .i64 x.1, Value.int .i64 x.2]).set (i * 2 + 1) (.int .i64 v)) = (xs.set i ((nthO (0, 0) xs i).1, v)).flatMap fun x => [Value.int .i64 x.1, Value.int .i64 x.2] := by
  induction xs generalizing i with
  | nil => simp at h
  | cons x xs ih =>
    cases i with
    | zero => simp [nthO]
    | succ i =>
      rw [show (i + 1) * 2 = i * 2 + 1 + 1 by omega]
      simp only [List.flatMap_cons, List.cons_append, List.nil_append, List.set_cons_succ, ih i (by simpa using h)]
      rfl
theorem row2_0 {xs : List (Int × Int)} {i : Nat} (h : i < xs.length) : (row2 xs)[i * 2]? = some (.int .i64 (nthO (0, 0) xs i).1) := by unfold row2; rw [List.getElem?_toArray]; exact (flat2_get xs i h).1
theorem row2_1 {xs : List (Int × Int)} {i : Nat} (h : i < xs.length) : (row2 xs)[i * 2 + 1]? = some (.int .i64 (nthO (0, 0) xs i).2) := by unfold row2; rw [List.getElem?_toArray]; exact (flat2_get xs i h).2
theorem row2_set1 (xs : List (Int × Int)) (i : Nat) (v : Int) (h : i < xs.length) : (row2 xs).setIfInBounds (i * 2) (.int .i64 v) = row2 (xs.set i (v, (nthO (0, 0) xs i).2)) := by
  unfold row2; rw [List.setIfInBounds_toArray, flat2_set1 _ _ _ h]
theorem row2_set2 (xs : List (Int × Int)) (i : Nat) (v : Int) (h : i < xs.length) : (row2 xs).setIfInBounds (i * 2 + 1) (.int .i64 v) = row2 (xs.set i ((nthO (0, 0) xs i).1, v)) := by
  unfold row2; rw [List.setIfInBounds_toArray, flat2_set2 _ _ _ h]
theorem flat2_rep (n : Nat) : ((List.replicate n ((0 : Int), (0 : Int))).flatMap fun x => [Value.int .i64 x.1, Value.int .i64 x.2]) = List.replicate (n * 2) (.int .i64 0) := by
  induction n with
  | zero => rfl
  | succ n ih =>
    rw [show (n + 1) * 2 = n * 2 + 1 + 1 by omega, List.replicate_succ, List.flatMap_cons, ih]
    rfl
theorem row2_made (n : Nat) : madeCells #[.int .i64 0, .int .i64 0] (n * 2) = row2 (List.replicate n (0, 0)) := by
  have e : (madeCells #[Value.int .i64 0, .int .i64 0] (n * 2)).toList = List.replicate (n * 2) (.int .i64 0) := by
    apply List.ext_getElem
    · simp [madeCells]
    · intro i h1 h2
      simp [madeCells]
      rcases Nat.mod_two_eq_zero_or_one i with h | h <;> simp [h]
  have e2 : (row2 (List.replicate n (0, 0))).toList = List.replicate (n * 2) (.int .i64 0) := by unfold row2; exact flat2_rep n
  exact Array.toList_inj.1 (e.trans e2.symm)

/-- How many looks are left to a thread, and where it is parked. -/
def lf (ss : List (Int × Int)) (t : Nat) : Int := (nthO (0, 0) ss t).1
def ad (ss : List (Int × Int)) (t : Nat) : Int := (nthO (0, 0) ss t).2
theorem lf_set {ss : List (Int × Int)} {i j : Nat} {v : Int × Int} (h : i < ss.length) : lf (ss.set i v) j = if i = j then v.1 else lf ss j := by
  unfold lf; rw [nthO_set h]; split <;> rfl
theorem ad_set {ss : List (Int × Int)} {i j : Nat} {v : Int × Int} (h : i < ss.length) : ad (ss.set i v) j = if i = j then v.2 else ad ss j := by
  unfold ad; rw [nthO_set h]; split <;> rfl

/-- Waits: sp is the budget, ss says what is left to each thread, and where it is parked, bs who has a permit. The struct is block p, the sleepers' row q, the permits g to g + 1 + n. -/
structure Wt (w : World) (p q g n : Nat) (sp : Int) (ss : List (Int × Int)) (bs : List Bool) : Prop where
  hd : Bk w p 54 #[.int .i64 sp, .pointer (some ⟨g + 1 + n, 0, none⟩), .slice (some ⟨q, 0, none⟩) n n]
  row : Bk w q 57 (row2 ss)
  len : ss.length = n
  pm : Pm w g n bs
  one : 1 ≤ sp
  few : sp ≤ 1000
  rng : ∀ t, t < n → 0 ≤ lf ss t ∧ lf ss t ≤ sp
  awk : ∀ t, t < n → 0 < lf ss t → nthO false bs t = false
  ord : g + 1 + n < q ∧ q < p

/-- The blocks that calls may change. -/
def InWt (q g n b : Nat) : Prop := b = q ∨ InPm g n b

section
variable {w w' : World} {p q g n : Nat} {sp : Int} {ss : List (Int × Int)} {bs : List Bool}
theorem Wt.kept {S : Nat → Prop} (h : Wt w p q g n sp ss bs) (k : Within w w' S) (hn : ∀ b, g ≤ b → b ≤ p → ¬ S b) : Wt w' p q g n sp ss bs := by
  have ho := h.ord
  exact ⟨h.hd.within k (hn _ (by omega) (by omega)), h.row.within k (hn _ (by omega) (by omega)), h.len, h.pm.kept k (fun b h1 h2 => hn b h1 (by omega)), h.one, h.few, h.rng, h.awk, h.ord⟩
theorem Wt.grown (h : Wt w p q g n sp ss bs) (k : w.grownBy w' none) : Wt w' p q g n sp ss bs := h.kept (S := fun _ => False) (.of_grown k (by simp)) (by simp)
theorem Wt.drewN (h : Wt w p q g n sp ss bs) (m : Nat) : Wt (w.drewN m) p q g n sp ss bs := ⟨h.hd, h.row, h.len, h.pm.drewN m, h.one, h.few, h.rng, h.awk, h.ord⟩
theorem Wt.c0 (h : Wt w p q g n sp ss bs) : w.cell? ⟨p, 0, none⟩ = some (.int .i64 sp) := by rw [h.hd.cell]; rfl
theorem Wt.c1 (h : Wt w p q g n sp ss bs) : w.cell? ⟨p, 1, none⟩ = some (.pointer (some ⟨g + 1 + n, 0, none⟩)) := by rw [h.hd.cell]; rfl
theorem Wt.c2 (h : Wt w p q g n sp ss bs) : w.cell? ⟨p, 2, none⟩ = some (.slice (some ⟨q, 0, none⟩) n n) := by rw [h.hd.cell]; rfl
theorem Wt.left (h : Wt w p q g n sp ss bs) {t : Nat} (ht : t < n) : w.cell? ⟨q, t * 2, none⟩ = some (.int .i64 (lf ss t)) := by rw [h.row.cell, row2_0 (by rw [h.len]; exact ht)]; rfl
theorem Wt.addr (h : Wt w p q g n sp ss bs) {t : Nat} (ht : t < n) : w.cell? ⟨q, t * 2 + 1, none⟩ = some (.int .i64 (ad ss t)) := by rw [h.row.cell, row2_1 (by rw [h.len]; exact ht)]; rfl
theorem Wt.lt (h : Wt w p q g n sp ss bs) : p < w.heap.size := h.hd.lt
theorem Wt.n64 (h : Wt w p q g n sp ss bs) : n ≤ 64 := h.pm.few

/-- A thread's looks are stored. -/
theorem Wt.putL (h : Wt w p q g n sp ss bs) {t : Nat} (ht : t < n) (v : Int) (h0 : 0 ≤ v) (hs : v ≤ sp) (hb : 0 < v → nthO false bs t = false) : Wt (w.setCell ⟨q, t * 2, none⟩ (.int .i64 v)) p q g n sp (ss.set t (v, ad ss t)) bs := by
  have ho := h.ord
  have hl := h.len
  refine ⟨h.hd.off (p := ⟨q, t * 2, none⟩) (by simp; omega) _, ?_, by simpa using hl, h.pm.kept (.of_grown (S := fun j => j = q) (only_put _ _ _ _) (by simp)) (fun b h1 h2 e => by omega), h.one, h.few, fun i hi => ?_, fun i hi hp => ?_, ho⟩
  · have := h.row.put (t * 2) (.int .i64 v)
    rw [row2_set1 _ _ _ (by omega)] at this
    exact this
  · rw [lf_set (by omega)]; split
    · exact ⟨h0, hs⟩
    · exact h.rng i hi
  · rw [lf_set (by omega)] at hp
    by_cases e : t = i
    · subst e; rw [if_pos rfl] at hp; exact hb hp
    · rw [if_neg e] at hp; exact h.awk i hi hp
/-- A thread's address is stored. -/
theorem Wt.putA (h : Wt w p q g n sp ss bs) {t : Nat} (ht : t < n) (v : Int) : Wt (w.setCell ⟨q, t * 2 + 1, none⟩ (.int .i64 v)) p q g n sp (ss.set t (lf ss t, v)) bs := by
  have ho := h.ord
  have hl := h.len
  refine ⟨h.hd.off (p := ⟨q, t * 2 + 1, none⟩) (by simp; omega) _, ?_, by simpa using hl, h.pm.kept (.of_grown (S := fun j => j = q) (only_put _ _ _ _) (by simp)) (fun b h1 h2 e => by omega), h.one, h.few, fun i hi => ?_, fun i hi hp => ?_, ho⟩
  · have := h.row.put (t * 2 + 1) (.int .i64 v)
    rw [row2_set2 _ _ _ (by omega)] at this
    exact this
  · rw [lf_set (by omega)]; split
    · rename_i e; subst e; exact h.rng t hi
    · exact h.rng i hi
  · rw [lf_set (by omega)] at hp
    by_cases e : t = i
    · subst e; rw [if_pos rfl] at hp; exact h.awk t hi hp
    · rw [if_neg e] at hp; exact h.awk i hi hp
/-- Permits of another hand: a permit may be given to who is parked. -/
theorem Wt.turn (h : Wt w p q g n sp ss bs) {bs' : List Bool} (hp : Pm w' g n bs') (k : Within w w' (InPm g n)) (ha : ∀ t, t < n → 0 < lf ss t → nthO false bs' t = false) : Wt w' p q g n sp ss bs' := by
  have ho := h.ord
  exact ⟨h.hd.within k (fun e => by have := e.2; omega), h.row.within k (fun e => by have := e.2; omega), h.len, hp, h.one, h.few, h.rng, ha, ho⟩

theorem wIs (h : Wt w p q g n sp ss bs) (t : Nat) (ht : t < n) :
    Calls Try.prog 27 #[.pointer (some ⟨p, 0, none⟩), .int .i64 t] w fun e w' => e = .returned (.bool true) ∧ w = w' := by
  have h2 := h.c2
  have hf := h.n64
  go_enter Try.func27, Try.ntmps27
  go_wp2
  go_ret
  exact ⟨rfl, rfl⟩

theorem wAwk (h : Wt w p q g n sp ss bs) (t : Nat) (ht : t < n) :
    Calls Try.prog 24 #[.pointer (some ⟨p, 0, none⟩), .int .i64 t] w fun e w' => e = .returned (.bool (decide (0 < lf ss t))) ∧ w = w' := by
  have h2 := h.c2
  have hf := h.n64
  have hl := h.left ht
  generalize lf ss t = l at hl ⊢
  go_enter Try.func24, Try.ntmps24
  go_wp2_with fail
  refine (wIs h t ht).mono ?_
  rintro e w' ⟨rfl, rfl⟩
  go_wp2
  go_ret
  exact ⟨rfl, rfl⟩

theorem wPkd (h : Wt w p q g n sp ss bs) (t : Nat) (ht : t < n) :
    Calls Try.prog 25 #[.pointer (some ⟨p, 0, none⟩), .int .i64 t] w fun e w' => e = .returned (.bool (lf ss t == 0)) ∧ w = w' := by
  have h2 := h.c2
  have hf := h.n64
  have hl := h.left ht
  generalize lf ss t = l at hl ⊢
  go_enter Try.func25, Try.ntmps25
  go_wp2_with fail
  refine (wIs h t ht).mono ?_
  rintro e w' ⟨rfl, rfl⟩
  go_wp2
  go_ret
  exact ⟨rfl, rfl⟩
end
end Go.Proofs.Ytjdnellafephfaa
