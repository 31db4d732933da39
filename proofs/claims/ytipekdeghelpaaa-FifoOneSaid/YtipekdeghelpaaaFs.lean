/- A slice of ints that lies anywhere in a row: cut, more, append of one (as a step of a region that draws its order; at the operation). Over any program. -/
import Derived.Test.YtipekdeghelpaaaRow
import Derived.Test.YtipekdeghelpaaaInts
import Derived.Deep.RegionLawGrows
import Derived.Deep.RegionHeld3
import Derived.Deep.Onto
import Derived.Lib.SmallJoins
namespace Go.Proofs.Ytipekdeghelpaaa
set_option maxRecDepth 100000
open Go.ChangeShapes Go.WideShapes Go.ChangeAt Go.RowKit
set_option linter.unusedVariables false

/-- The value v is a slice of just the ints xs, somewhere in a row (or nil). -/
def Fs (w : World) (v : Value) (xs : List Int) : Prop :=
  (v = .slice none 0 0 ∧ xs = []) ∨ ∃ g off cap cs, v = .slice (some ⟨g, off, none⟩) xs.length cap ∧ xs.length ≤ cap ∧ cap ≤ maxLen ∧ Bk w g 3 cs ∧ off + cap ≤ cs.size ∧ ∀ i, i < xs.length → cs[off + i]? = some (.int .i64 (nth xs i))
section
variable {w w' : World} {v : Value} {xs : List Int}
theorem Fs.of_lst (h : Lst .i64 3 w v xs) : Fs w v xs := by
  rcases h.2 with ⟨rfl, h0⟩ | ⟨g, cap, cur, rfl, hb, hg, hnc, hcm, hcs, htake⟩
  · exact .inl ⟨rfl, List.eq_nil_of_length_eq_zero h0⟩
  · refine .inr ⟨g, 0, cap, cur, rfl, hnc, hcm, hg, by omega, fun i hi => ?_⟩
    have h1 := World.ownsRow.cellAt ⟨h.1, .inr ⟨g, cap, cur, rfl, hb, hg, hnc, hcm, hcs, htake⟩⟩ i (by omega)
    rw [List.getElem?_map, nth_get hi] at h1
    rw [Nat.zero_add, ← Bk.cell (cs := cur) (t := 3) hg i, h1]; rfl
theorem Fs.lt (h : Fs w v xs) {g : Nat} (e : v.ownBlock = some g) : g < w.heap.size := by
  rcases h with ⟨rfl, _⟩ | ⟨g', off, cap, cs, rfl, _, _, hb, _⟩
  · cases e
  · simp only [Value.ownBlock, Option.some.injEq] at e; subst e; exact hb.lt
theorem Fs.bk (h : Fs w v xs) {g : Nat} (e : v.ownBlock = some g) : ∃ cs, Bk w g 3 cs := by
  rcases h with ⟨rfl, _⟩ | ⟨g', off, cap, cs, rfl, _, _, hb, _⟩
  · cases e
  · simp only [Value.ownBlock, Option.some.injEq] at e; subst e; exact ⟨cs, hb⟩
theorem Fs.within {S : Nat → Prop} (h : Fs w v xs) (k : Within w w' S) (hn : ∀ g, v.ownBlock = some g → ¬ S g) : Fs w' v xs := by
  rcases h with ⟨rfl, rfl⟩ | ⟨g, off, cap, cs, rfl, h1, h2, hb, h3⟩
  · exact .inl ⟨rfl, rfl⟩
  · exact .inr ⟨g, off, cap, cs, rfl, h1, h2, hb.within k (hn g rfl), h3⟩
theorem Fs.oneCell (h : Fs w v xs) : v.oneCell' = true := by
  rcases h with ⟨rfl, _⟩ | ⟨g, off, cap, cs, rfl, _⟩ <;> rfl
/-- The first one cut off. -/
theorem Fs.cut {x : Int} (h : Fs w v (x :: xs)) : ∃ g off cap, v = .slice (some ⟨g, off, none⟩) (xs.length + 1) cap ∧ xs.length + 1 ≤ cap ∧ cap ≤ maxLen ∧ w.cell? ⟨g, off, none⟩ = some (.int .i64 x) ∧
    (cap = 1 → Fs w (.slice (some ⟨g, off, none⟩) xs.length (cap - 1)) xs) ∧ (cap ≠ 1 → Fs w (.slice (some ⟨g, off + 1, none⟩) xs.length (cap - 1)) xs) := by
  rcases h with ⟨_, h⟩ | ⟨g, off, cap, cs, rfl, h1, h2, hb, h3, h4⟩
  · cases h
  · simp only [List.length_cons] at h1 h4
    refine ⟨g, off, cap, rfl, h1, h2, ?_, fun e => ?_, fun e => ?_⟩
    · rw [hb.cell]; have := h4 0 (by omega); rw [Nat.add_zero] at this; exact this
    · exact .inr ⟨g, off, cap - 1, cs, rfl, by omega, by omega, hb, by omega, fun i hi => by omega⟩
    · refine .inr ⟨g, off + 1, cap - 1, cs, rfl, by omega, by omega, hb, by omega, fun i hi => ?_⟩
      rw [show off + 1 + i = off + (i + 1) by omega, h4 (i + 1) (by omega)]
      rfl
/-- One more, where there is room. -/
theorem Fs.more {g off cap : Nat} {x : Int} (h : Fs w (.slice (some ⟨g, off, none⟩) xs.length cap) xs) (hr : xs.length + 1 ≤ cap) : Fs (w.setCell ⟨g, off + xs.length, none⟩ (.int .i64 x)) (.slice (some ⟨g, off, none⟩) (xs.length + 1) cap) (xs ++ [x]) := by
  rcases h with ⟨h, _⟩ | ⟨g', off', cap', cs, e, h1, h2, hb, h3, h4⟩
  · cases h
  · simp only [Value.slice.injEq, Option.some.injEq, Addr.mk.injEq, and_true, true_and] at e
    obtain ⟨⟨rfl, rfl⟩, rfl⟩ := e
    refine .inr ⟨g, off, cap, _, by simp, by simp; omega, h2, hb.put _ _, by simpa using h3, fun i hi => ?_⟩
    simp only [List.length_append, List.length_cons, List.length_nil] at hi
    rw [Array.getElem?_setIfInBounds]
    by_cases e : i = xs.length
    · subst e
      rw [if_pos rfl, if_pos (by omega)]
      simp [nth]
    · rw [if_neg (by omega), h4 i (by omega)]
      simp [nth, List.getD_eq_getElem?_getD, List.getElem?_append, show i < xs.length by omega]
end

theorem setCells_one (w : World) (g o : Nat) (u : Value) : w.setCells g o [u] = w.setCell ⟨g, o, none⟩ u := rfl

/-- append of one int to a slice that lies anywhere, as a step of a region that draws its order. -/
theorem step_fs {ops : Array Oper} {o : Oper} {a : Act} {w : World} {K : Act → World → Prop} {Q : Exit → Act → World → Prop} {E : Prop} (hgd : o.guard = none) (s x : Operand)
    (ho : o.op = Op.call { callee := Callee.builtin Builtin.append, args := #[s, x], argTypes := #[39, 39] }) {v : Value} {xs : List Int} (hF : Fs w v xs) (hs : a.eval s = v) (hl : xs.length < 1000) (y : Int) (B : Nat)
    (hx : a.eval x = .slice (some ⟨B, 0, none⟩) 1 1) (hB : w.cell? ⟨B, 0, none⟩ = some (.int .i64 y))
    (hK : ∀ ad cap' w', Fs w' (.slice (some ad) (xs.length + 1) cap') (xs ++ [y]) → w.grownBy w' v.ownBlock → (some ad.block = v.ownBlock ∨ w.heap.size ≤ ad.block) → K (a.put o.dst (.slice (some ad) (xs.length + 1) cap')) w') :
    if Region.wanted o (yielded ops a.tmps) = true then Oper.wp Try.prog o a w K Q else E := by
  obtain ⟨i0, hi0, hz0, hz1, hz2⟩ := info_parts intinfo
  have hnews : ∀ j u, [Value.int .i64 y][j]? = some u → w.cell? ((⟨B, 0, none⟩ : Addr).add j) = some u := by
    intro j u hj
    match j, hj with
    | 0, hj => simp at hj; subst hj; exact hB
    | j + 1, hj => simp at hj
  have hone : ∀ u ∈ [Value.int .i64 y], u.oneCell' = true := ints_oneCell .i64 [y]
  have hgrown : ∀ v' w', w'.ownsRow w.heap.size 3 1 v' (xs.length + 1) (xs.map (Value.int .i64) ++ [.int .i64 y]) → w.grownBy w' none → K (a.put o.dst v') w' := by
    intro v' w' hown hg
    obtain ⟨g, cap', rfl⟩ := Joins.ownsRow_form hown (by omega)
    have hL : Lst .i64 3 w' (.slice (some ⟨g, 0, none⟩) (xs.length + 1) cap') (xs ++ [y]) := by
      unfold Lst
      have := hown.mono (Nat.zero_le _)
      simpa using this
    exact hK _ _ _ (Fs.of_lst hL) (grown_any hg) (.inr (World.ownsRow.lt hown g rfl).1)
  rcases hF with ⟨rfl, rfl⟩ | ⟨g, off, cap, cs, rfl, h1, h2, hb, h3, h4⟩
  · exact step_append_grows hgd s x 39 ho 3 i0 _ 1 8 Try.underlying39 hi0 hz0 hz1 hz2 rfl (by omega) none 0 0 [] hs (fun _ => ⟨rfl, rfl⟩) rfl (fun _ e => by cases e) ⟨B, 0, none⟩ 1 1 [.int .i64 y] hx rfl hnews hone (by omega) (by simp only [maxLen]; omega) (by omega) hgrown
  · by_cases hr : xs.length + 1 ≤ cap
    · refine step_append_room hgd s x 39 ho 3 i0 1 Try.underlying39 hi0 hz1 g off xs.length cap hs ⟨B, 0, none⟩ 1 1 [.int .i64 y] hx rfl hnews hone hr (fun j hj => ?_) ?_
      · simp at hj
        subst hj
        refine ⟨?_, hb.free _⟩
        rw [hb.cell, Nat.add_zero, Nat.mul_one]
        simp; omega
      · rw [setCells_one, Nat.mul_one]
        exact hK _ _ _ (Fs.more (.inr ⟨g, off, cap, cs, rfl, h1, h2, hb, h3, h4⟩) hr) (only_put _ _ _ _) (.inl rfl)
    · refine step_append_grows hgd s x 39 ho 3 i0 _ 1 8 Try.underlying39 hi0 hz0 hz1 hz2 rfl (by omega) (some ⟨g, off, none⟩) xs.length cap (xs.map (Value.int .i64)) hs (fun e => by cases e) (by simp) (fun b e j u hj => ?_) ⟨B, 0, none⟩ 1 1 [.int .i64 y] hx rfl hnews hone (by omega) (by simp only [maxLen]; omega) (by omega) hgrown
      injection e with e
      subst e
      have hj' : j < xs.length := by have := (List.getElem?_eq_some_iff.1 hj).1; simpa using this
      rw [List.getElem?_map, nth_get hj'] at hj
      have ea : (⟨g, off, none⟩ : Addr).add j = ⟨g, off + j, none⟩ := by unfold Addr.add; split <;> simp_all
      rw [ea, hb.cell, h4 j hj', ← hj]; rfl


/-- .. at the operation. -/
theorem wpFsApp {ops : Array Oper} {rest : List Oper} {o : Oper} {a : Act} {w : World} {Q : Exit → Act → World → Prop} (hgd : o.guard = none) (s x : Operand)
    (ho : o.op = Op.call { callee := Callee.builtin Builtin.append, args := #[s, x], argTypes := #[39, 39] }) {v : Value} {xs : List Int} (hF : Fs w v xs) (hs : a.eval s = v) (hl : xs.length < 1000) (y : Int) (B : Nat)
    (hx : a.eval x = .slice (some ⟨B, 0, none⟩) 1 1) (hB : w.cell? ⟨B, 0, none⟩ = some (.int .i64 y))
    (hK : ∀ ad cap' w', Fs w' (.slice (some ad) (xs.length + 1) cap') (xs ++ [y]) → w.grownBy w' v.ownBlock → (some ad.block = v.ownBlock ∨ w.heap.size ≤ ad.block) → wpList Try.prog ops Q rest (a.put o.dst (.slice (some ad) (xs.length + 1) cap')) w') :
    wpList Try.prog ops Q (o :: rest) a w := by
  refine wpList_plain hgd fun K hK2 => ?_
  have h := step_fs (ops := ops) (K := K) (Q := Q) (E := False) hgd s x ho hF hs hl y B hx hB (fun ad cap' w' h1 h2 h3 => hK2 _ _ (hK ad cap' w' h1 h2 h3))
  have hw : Region.wanted o (yielded ops a.tmps) = true := by simp [Region.wanted, hgd]
  rw [if_pos hw] at h
  exact h
end Go.Proofs.Ytipekdeghelpaaa
