/- A slice of integers that the call itself makes by append, one element at a time, from nil on: what it is, and what append and a look at it do. Over any program. -/
import Derived.Test.YtgbblpmdoacinaaDoorRow
import Derived.Maps.AppendAt
namespace Go.Proofs.YtgbblpmdoacinaaDoor
open Go.ChangeShapes Go.WideShapes Go.ChangeAt Go.RowKit

/-- The value v is a slice of just the integers xs, in a row of its own (or nil). -/
def Lst (k : IntKind) (t : TypeId) (w : World) (v : Value) (xs : List Int) : Prop := w.ownsRow 0 t 1 v xs.length (xs.map (Value.int k))

section
variable {k : IntKind} {t : TypeId} {w w' : World} {v : Value} {xs : List Int}
theorem Lst.nil (k : IntKind) (t : TypeId) (w : World) : Lst k t w (.slice none 0 0) [] := World.ownsRow_nil _ _ _ _
theorem Lst.lt (h : Lst k t w v xs) {g : Nat} (e : v.ownBlock = some g) : g < w.heap.size := (World.ownsRow.lt h g e).2
theorem Lst.bk (h : Lst k t w v xs) {g : Nat} (e : v.ownBlock = some g) : ∃ cs, Bk w g t cs := by
  rcases h.2 with ⟨rfl, _⟩ | ⟨g', cap, cur, rfl, _, hg, _⟩
  · cases e
  · simp only [Value.ownBlock, Option.some.injEq] at e; subst e; exact ⟨cur, hg⟩
theorem Lst.kept {r : Option Nat} (h : Lst k t w v xs) (hg : w.grownBy w' r) (hne : v.ownBlock = none ∨ v.ownBlock ≠ r) : Lst k t w' v xs := World.ownsRow.kept h hg hne
theorem Lst.within {S : Nat → Prop} (h : Lst k t w v xs) (hk : Within w w' S) (hn : ∀ g, v.ownBlock = some g → ¬ S g) : Lst k t w' v xs := by
  rcases h.2 with ⟨rfl, h0⟩ | ⟨g, cap, cur, rfl, hb, hg, r⟩
  · exact ⟨h.1, .inl ⟨rfl, h0⟩⟩
  · exact ⟨h.1, .inr ⟨g, cap, cur, rfl, hb, (hk.block g (Array.getElem?_eq_some_iff.1 hg).1 (hn g rfl)).trans hg, r⟩⟩
theorem Lst.drewN (h : Lst k t w v xs) (m : Nat) : Lst k t (w.drewN m) v xs := h
theorem Lst.alloc (h : Lst k t w v xs) (o : Obj) : Lst k t (w.alloc o) v xs := World.ownsRow.alloc h o
/-- What slice it is. -/
theorem Lst.is (h : Lst k t w v xs) : ∃ a cap, v = .slice a xs.length cap ∧ xs.length ≤ cap ∧ cap ≤ maxLen ∧ (0 < xs.length → ∃ g, a = some ⟨g, 0, none⟩ ∧ v.ownBlock = some g ∧ (∀ i, w.frozen? ⟨g, i, none⟩ = false) ∧ ∀ i, i < xs.length → w.cell? ⟨g, i, none⟩ = some (.int k (nth xs i))) := by
  rcases h.2 with ⟨rfl, h0⟩ | ⟨g, cap, cur, rfl, hb, hg, hnc, hcm, r⟩
  · exact ⟨none, 0, by rw [h0], by omega, by simp, fun h => by omega⟩
  · refine ⟨some ⟨g, 0, none⟩, cap, rfl, hnc, hcm, fun _ => ⟨g, rfl, rfl, fun i => Bk.free (cs := cur) (t := t) hg i, fun i hi => ?_⟩⟩
    rw [World.ownsRow.cellAt h i (by omega), List.getElem?_map, nth_get hi]; rfl
/-- An element is another. -/
theorem Lst.put {g cap : Nat} (h : Lst k t w (.slice (some ⟨g, 0, none⟩) xs.length cap) xs) (i : Nat) (y : Int) : Lst k t (w.setCell ⟨g, i, none⟩ (.int k y)) (.slice (some ⟨g, 0, none⟩) xs.length cap) (xs.set i y) := by
  have := (World.ownsRow.stored h i (.int k y)).1
  unfold Lst; rw [List.length_set, List.map_set]; exact this
end

section
variable {k : IntKind} {t : TypeId} {w : World} {v : Value} {xs : List Int} {P : Program} {ops : Array Oper} {rest : List Oper} {o : Oper} {a : Act} {Q : Exit → Act → World → Prop}
/-- append of one element, which the translation has laid in a block of its own. -/
theorem wpLstApp (hgd : o.guard = none) (s x : Operand) (ts : TypeId) (ho : o.op = .call { callee := .builtin .append, args := #[s, x], argTypes := #[ts, ts] })
    (bytes : Nat) (ht : P.underlying ts = some (.slice t)) (hi : (P.info? t).map (fun i => (i.zero, i.size, i.bytes)) = some (some (.int k 0), 1, bytes)) (hby : bytes ≤ 8)
    (h : Lst k t w v xs) (hs : a.eval s = v) (y : Int) (hx : a.eval x = .slice (some ⟨w.heap.size, 0, none⟩) 1 1) (hl : xs.length < 1000000)
    (hK : ∀ v' w', Lst k t w' v' (xs ++ [y]) → w.grownBy w' v.ownBlock → (v'.ownBlock = v.ownBlock ∨ v'.ownBlock = some (w.heap.size + 1)) → wpList P ops Q rest (a.put o.dst v') w') :
    wpList P ops Q (o :: rest) a (w.alloc (.cells #[.int k y] t)) := by
  obtain ⟨i0, hi0, hz0, hz1, hz2⟩ := info_parts hi
  refine wpList_append_own_at _ hgd s x ts ho 0 t i0 _ 1 bytes ht hi0 hz0 hz1 hz2 rfl (by omega) v xs.length (xs.map (Value.int k)) hs (h.alloc _) ⟨w.heap.size, 0, none⟩ 1 1 [.int k y] hx rfl (cell_one_new _ _ _) (ints_oneCell k [y]) (by simp only [maxLen]; omega) ?_ (Nat.zero_le _) ?_
  · have : (xs.length + 1) * bytes ≤ 1000001 * 8 := Nat.mul_le_mul (by omega) hby
    omega
  · intro v' w' hown hgr _ hloc
    refine hK v' w' ?_ ?_ ?_
    · unfold Lst; simpa using hown
    · exact grown_then (grown_made _ _ _) hgr (.inl rfl)
    · simpa using hloc
end
end Go.Proofs.YtgbblpmdoacinaaDoor
