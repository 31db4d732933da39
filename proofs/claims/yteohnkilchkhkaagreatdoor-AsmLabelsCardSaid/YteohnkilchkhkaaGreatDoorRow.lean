/- Which blocks may have changed (a set of them); lists as rows of cells: over any program. -/
import Derived.Test.YteohnkilchkhkaaGreatDoorMem
namespace Go.Proofs.YteohnkilchkhkaaGreatDoor
open Go.ChangeShapes Go.WideShapes Go.ChangeAt Go.RowKit

/-- Nothing but blocks of S, and what is new, has changed. -/
structure Within (w w' : World) (S : Nat → Prop) : Prop where
  os : w'.os = w.os
  tape : w'.tape = w.tape
  output : w'.output = w.output
  size : w.heap.size ≤ w'.heap.size
  block : ∀ i, i < w.heap.size → ¬ S i → w'.heap[i]? = w.heap[i]?

section
variable {w w' w'' : World} {S S' : Nat → Prop}
theorem Within.refl (w : World) (S : Nat → Prop) : Within w w S := ⟨rfl, rfl, rfl, Nat.le_refl _, fun _ _ _ => rfl⟩
/-- One behind the other: what the second one may change is what the first one may, or new. -/
theorem Within.then_ (h : Within w w' S) (k : Within w' w'' S') (hs : ∀ i, S' i → S i ∨ w.heap.size ≤ i) : Within w w'' S :=
  ⟨k.os.trans h.os, k.tape.trans h.tape, k.output.trans h.output, Nat.le_trans h.size k.size, fun i hi hn =>
    (k.block i (Nat.lt_of_lt_of_le hi h.size) (fun e => by rcases hs i e with e | e
                                                           · exact hn e
                                                           · omega)).trans (h.block i hi hn)⟩
theorem Within.wide (h : Within w w' S) (hs : ∀ i, S i → i < w.heap.size → S' i) : Within w w' S' := ⟨h.os, h.tape, h.output, h.size, fun i hi hn => h.block i hi (fun e => hn (hs i e hi))⟩
theorem Within.of_grown {r : Option Nat} (h : w.grownBy w' r) (hs : ∀ i, r = some i → S i ∨ w.heap.size ≤ i) : Within w w' S :=
  ⟨h.os, h.tape, h.output, h.size, fun i hi hn => h.block i hi (fun e => by rcases hs i e.symm with e | e
                                                                            · exact hn e
                                                                            · omega)⟩
theorem Within.draws (h : Within w w' S) (n : Nat) : Within w (w'.drewN n) S := ⟨h.os, h.tape, h.output, h.size, h.block⟩
theorem Within.alloc (h : Within w w' S) (o : Obj) : Within w (w'.alloc o) S := h.then_ (.of_grown (S := fun _ => False) (grown_made _ _ none) (by simp)) (by simp)
theorem Within.put (h : Within w w' S) (g i : Nat) (u : Value) (hs : S g ∨ w.heap.size ≤ g) : Within w (w'.setCell ⟨g, i, none⟩ u) S :=
  h.then_ (.of_grown (S := fun j => j = g) (only_put _ _ _ _) (by simp)) (by rintro i rfl; exact hs)
theorem Within.grown (h : Within w w' S) (hs : ∀ i, S i → w.heap.size ≤ i) : w.grownBy w' none := ⟨h.os, h.tape, h.output, h.size, fun i hi _ => h.block i hi (fun e => by have := hs i e; omega)⟩
theorem Within.below (h : Within w w' S) (hs : ∀ i, S i → w.heap.size ≤ i) : Below w.heap.size w w' := below_of_grown (h.grown hs)
theorem Bk.within {g : Nat} {t : TypeId} {cs : Array Value} (h : Bk w g t cs) (k : Within w w' S) (hn : ¬ S g) : Bk w' g t cs := (k.block g h.lt hn).trans h
end

/-- Behind a call of what is blocks p and og: only these may have changed; og is the same, or new. -/
def Moved (w : World) (p : Nat) (og : Option Nat) (w' : World) (og' : Option Nat) : Prop :=
  (og' = og ∨ ∃ g, og' = some g ∧ w.heap.size ≤ g) ∧ Within w w' (fun b => b = p ∨ some b = og)
/-- Since world a nothing that was there has changed; p and og are new since then. -/
def Fresh (a w : World) (p : Nat) (og : Option Nat) : Prop := a.grownBy w none ∧ a.heap.size ≤ p ∧ ∀ g, og = some g → a.heap.size ≤ g
section
variable {a w w' : World} {p : Nat} {og og' : Option Nat}
theorem Fresh.within (h : Fresh a w p og) (k : Within w w' (fun b => b = p ∨ some b = og)) : Fresh a w' p og := by
  refine ⟨?_, h.2⟩
  have h1 : Within a w' (fun _ => False) := Within.then_ (.of_grown h.1 (by simp)) k (by
    rintro i (rfl | e)
    · exact .inr h.2.1
    · exact .inr (h.2.2 i e.symm))
  exact h1.grown (by simp)
theorem Fresh.moved (h : Fresh a w p og) (k : Moved w p og w' og') : Fresh a w' p og' := by
  have h1 := h.within k.2
  refine ⟨h1.1, h.2.1, fun g e => ?_⟩
  rcases k.1 with rfl | ⟨g', rfl, hg⟩
  · exact h.2.2 g e
  · obtain rfl : g' = g := by injection e
    exact Nat.le_trans h.1.size hg
theorem Fresh.draws (h : Fresh a w p og) (n : Nat) : Fresh a (w.drewN n) p og := ⟨grown_draws h.1 n, h.2⟩
theorem Fresh.more (h : Fresh a w p og) (k : w.grownBy w' none) : Fresh a w' p og := ⟨grown_then h.1 k (.inl rfl), h.2⟩
end

theorem cell_off {w : World} {b i : Nat} {u : Value} {c j : Nat} (h : c ≠ b) : (w.setCell ⟨b, i, none⟩ u).cell? ⟨c, j, none⟩ = w.cell? ⟨c, j, none⟩ :=
  World.cell?_of_block (Below.heap_setCell w ⟨b, i, none⟩ u c h)

/-- A list's element; z where there is none. A plain definition, so that a walk leaves it alone. -/
def nthO {α : Type} (z : α) (xs : List α) (i : Nat) : α := xs.getD i z
section
variable {α : Type} {z : α}
theorem nthO_get {xs : List α} {i : Nat} (h : i < xs.length) : xs[i]? = some (nthO z xs i) := by simp [nthO, h]
theorem nthO_set {xs : List α} {i j : Nat} {v : α} (h : i < xs.length) : nthO z (xs.set i v) j = if i = j then v else nthO z xs j := by
  unfold nthO; simp only [List.getD_eq_getElem?_getD, List.getElem?_set]
  by_cases e : i = j
  · subst e; simp [h]
  · simp [e]
theorem nthO_append_lt {xs ys : List α} {i : Nat} (h : i < xs.length) : nthO z (xs ++ ys) i = nthO z xs i := by simp [nthO, List.getD_eq_getElem?_getD, List.getElem?_append, h]
theorem nthO_append_eq {xs : List α} {v : α} : nthO z (xs ++ [v]) xs.length = v := by simp [nthO]
theorem nthO_tail {xs : List α} {i : Nat} : nthO z xs.tail i = nthO z xs (i + 1) := by simp [nthO, List.getD_eq_getElem?_getD, List.getElem?_tail]
theorem nthO_ext {xs ys : List α} (hl : xs.length = ys.length) (h : ∀ i, i < xs.length → nthO z xs i = nthO z ys i) : xs = ys := by
  apply List.ext_getElem? 
  intro i
  by_cases hi : i < xs.length
  · rw [nthO_get (z := z) hi, nthO_get (z := z) (by omega), h i hi]
  · rw [List.getElem?_eq_none (by omega), List.getElem?_eq_none (by omega)]

/-- A list as a row of cells. -/
def rowOf (C : α → Value) (xs : List α) : Array Value := (xs.map C).toArray
theorem rowOf_size (C : α → Value) (xs : List α) : (rowOf C xs).size = xs.length := by simp [rowOf]
theorem rowOf_at (C : α → Value) {xs : List α} {i : Nat} (h : i < xs.length) : (rowOf C xs)[i]? = some (C (nthO z xs i)) := by simp [rowOf, nthO, h]
theorem rowOf_set (C : α → Value) (xs : List α) (i : Nat) (v : α) : (rowOf C xs).setIfInBounds i (C v) = rowOf C (xs.set i v) := by
  unfold rowOf; rw [List.setIfInBounds_toArray, List.map_set]
theorem rowOf_made (C : α → Value) (z : α) (n : Nat) : madeCells #[C z] n = rowOf C (List.replicate n z) := by
  apply Array.ext
  · simp [madeCells, rowOf]
  · intro i h1 h2; simp [madeCells, rowOf, Nat.mod_one]

/-- The first k of vs, then what was there. -/
def layTo (vs ds : List α) (k : Nat) : List α := vs.take k ++ ds.drop k
theorem layTo_len (vs ds : List α) (k : Nat) (h : k ≤ vs.length) (hd : k ≤ ds.length) : (layTo vs ds k).length = ds.length := by simp [layTo]; omega
theorem layTo_0 (vs ds : List α) : layTo vs ds 0 = ds := by simp [layTo]
theorem layTo_all (vs ds : List α) (h : ds.length = vs.length) : layTo vs ds vs.length = vs := by unfold layTo; rw [List.take_length, List.drop_of_length_le (by omega), List.append_nil]
theorem layTo_at (vs ds : List α) (k i : Nat) (hk : k ≤ vs.length) (h : i < k) : nthO z (layTo vs ds k) i = nthO z vs i := by
  simp [layTo, nthO, List.getD_eq_getElem?_getD, List.getElem?_append, List.getElem?_take]
  rw [if_pos (by omega), if_pos h]
theorem layTo_set (vs ds : List α) (k : Nat) (h : k < vs.length) (hd : k < ds.length) : (layTo vs ds k).set k (nthO z vs k) = layTo vs ds (k + 1) := by
  unfold layTo
  have e : vs.take (k + 1) = vs.take k ++ [nthO z vs k] := by rw [List.take_add_one, nthO_get (z := z) h]; rfl
  rw [e, List.set_append, if_neg (by simp; omega)]
  have e2 : ds.drop k = ds[k] :: ds.drop (k + 1) := by rw [List.drop_eq_getElem_cons hd]
  rw [e2]
  have e3 : k - (vs.take k).length = 0 := by simp; omega
  rw [e3, List.set_cons_zero, List.append_assoc, List.singleton_append]
end
end Go.Proofs.YteohnkilchkhkaaGreatDoor
