/- A slice of one-cell values that the call itself makes by append, one at a time, from nil on. Over any program. -/
import Derived.Test.YteohnkilchkhkaaGreatDoorRow
import Derived.Maps.AppendAt
namespace Go.Proofs.YteohnkilchkhkaaGreatDoor
open Go.ChangeShapes Go.WideShapes Go.ChangeAt Go.RowKit

/-- The value v is a slice of just these one-cell values, in a row of its own (or nil). -/
def Vls (t : TypeId) (w : World) (v : Value) (us : List Value) : Prop := w.ownsRow 0 t 1 v us.length us
section
variable {t : TypeId} {w w' : World} {v : Value} {us : List Value}
theorem Vls.nil (t : TypeId) (w : World) : Vls t w (.slice none 0 0) [] := World.ownsRow_nil _ _ _ _
theorem Vls.lt (h : Vls t w v us) {g : Nat} (e : v.ownBlock = some g) : g < w.heap.size := (World.ownsRow.lt h g e).2
theorem Vls.bk (h : Vls t w v us) {g : Nat} (e : v.ownBlock = some g) : ∃ cs, Bk w g t cs := by
  rcases h.2 with ⟨rfl, _⟩ | ⟨g', cap, cur, rfl, _, hg, _⟩
  · cases e
  · simp only [Value.ownBlock, Option.some.injEq] at e; subst e; exact ⟨cur, hg⟩
theorem Vls.within {S : Nat → Prop} (h : Vls t w v us) (hk : Within w w' S) (hn : ∀ g, v.ownBlock = some g → ¬ S g) : Vls t w' v us := by
  rcases h.2 with ⟨rfl, h0⟩ | ⟨g, cap, cur, rfl, hb, hg, r⟩
  · exact ⟨h.1, .inl ⟨rfl, h0⟩⟩
  · exact ⟨h.1, .inr ⟨g, cap, cur, rfl, hb, (hk.block g (Array.getElem?_eq_some_iff.1 hg).1 (hn g rfl)).trans hg, r⟩⟩
theorem Vls.alloc (h : Vls t w v us) (o : Obj) : Vls t (w.alloc o) v us := World.ownsRow.alloc h o
theorem Vls.is (h : Vls t w v us) : ∃ a cap, v = .slice a us.length cap ∧ us.length ≤ cap ∧ cap ≤ maxLen ∧ (0 < us.length → ∃ g, a = some ⟨g, 0, none⟩ ∧ v.ownBlock = some g ∧ (∀ i, w.frozen? ⟨g, i, none⟩ = false) ∧ ∀ i, w.cell? ⟨g, i, none⟩ = us[i]? ∨ us.length ≤ i) := by
  rcases h.2 with ⟨rfl, h0⟩ | ⟨g, cap, cur, rfl, hb, hg, hnc, hcm, r⟩
  · exact ⟨none, 0, by rw [h0], by omega, by simp, fun h => by omega⟩
  · refine ⟨some ⟨g, 0, none⟩, cap, rfl, hnc, hcm, fun _ => ⟨g, rfl, rfl, fun i => Bk.free (cs := cur) (t := t) hg i, fun i => ?_⟩⟩
    by_cases hi : i < us.length
    · exact .inl (World.ownsRow.cellAt h i (by omega))
    · exact .inr (by omega)
theorem Vls.put {g cap : Nat} (h : Vls t w (.slice (some ⟨g, 0, none⟩) us.length cap) us) (i : Nat) (u : Value) : Vls t (w.setCell ⟨g, i, none⟩ u) (.slice (some ⟨g, 0, none⟩) us.length cap) (us.set i u) := by
  have := (World.ownsRow.stored h i u).1
  unfold Vls; rw [List.length_set]; exact this
end
section
variable {t : TypeId} {w : World} {v : Value} {us : List Value} {P : Program} {ops : Array Oper} {rest : List Oper} {o : Oper} {a : Act} {Q : Exit → Act → World → Prop}
/-- append of one value, which the translation has laid in a block of its own. -/
theorem wpVlsApp (hgd : o.guard = none) (s x : Operand) (ts : TypeId) (ho : o.op = .call { callee := .builtin .append, args := #[s, x], argTypes := #[ts, ts] })
    (z : Value) (bytes : Nat) (ht : P.underlying ts = some (.slice t)) (hi : (P.info? t).map (fun i => (i.zero, i.size, i.bytes)) = some (some z, 1, bytes)) (hz : z.cells.size = 1) (hby : bytes ≤ 24)
    (h : Vls t w v us) (hs : a.eval s = v) (y : Value) (hy : y.oneCell' = true) (hx : a.eval x = .slice (some ⟨w.heap.size, 0, none⟩) 1 1) (hl : us.length < 1000000)
    (hK : ∀ v' w', Vls t w' v' (us ++ [y]) → w.grownBy w' v.ownBlock → (v'.ownBlock = v.ownBlock ∨ v'.ownBlock = some (w.heap.size + 1)) → wpList P ops Q rest (a.put o.dst v') w') :
    wpList P ops Q (o :: rest) a (w.alloc (.cells #[y] t)) := by
  obtain ⟨i0, hi0, hz0, hz1, hz2⟩ := info_parts hi
  refine wpList_append_own_at _ hgd s x ts ho 0 t i0 _ 1 bytes ht hi0 hz0 hz1 hz2 hz (by omega) v us.length us hs (h.alloc _) ⟨w.heap.size, 0, none⟩ 1 1 [y] hx rfl (cell_one_new _ _ _) (by intro u hu; simp at hu; subst hu; exact hy) (by simp only [maxLen]; omega) ?_ (Nat.zero_le _) ?_
  · have : (us.length + 1) * bytes ≤ 1000001 * 24 := Nat.mul_le_mul (by omega) hby
    omega
  · intro v' w' hown hgr _ hloc
    refine hK v' w' ?_ ?_ ?_
    · unfold Vls; simpa using hown
    · exact grown_then (grown_made _ _ _) hgr (.inl rfl)
    · simpa using hloc
end
end Go.Proofs.YteohnkilchkhkaaGreatDoor
