/- A row of the call's own, of whatever elements: append of one, as a step of a region that draws its order, and at the operation; what a row holds behind other changes. Over any program. -/
import Derived.Test.YteohnkilchkhkaaGreatDoorRow
import Derived.Maps.AppendAt
import Derived.Deep.RegionLawGrows
namespace Go.Proofs.YteohnkilchkhkaaGreatDoor
open Go.ChangeShapes Go.WideShapes Go.ChangeAt Go.RowKit
set_option linter.unusedVariables false

section
variable {P : Program} {w w' : World} {base : Nat} {t : TypeId} {size : Nat} {v : Value} {n : Nat} {xs : List Value}
theorem own_bk (h : w.ownsRow base t size v n xs) {g : Nat} (e : v.ownBlock = some g) : ∃ cs, Bk w g t cs := by
  rcases h.2 with ⟨rfl, _⟩ | ⟨g', cap, cur, rfl, _, hg, _⟩
  · cases e
  · simp only [Value.ownBlock, Option.some.injEq] at e; subst e; exact ⟨cur, hg⟩
theorem own_within {S : Nat → Prop} (h : w.ownsRow base t size v n xs) (hk : Within w w' S) (hn : ∀ g, v.ownBlock = some g → ¬ S g) : w'.ownsRow base t size v n xs := by
  rcases h.2 with ⟨rfl, h0⟩ | ⟨g, cap, cur, rfl, hb, hg, r⟩
  · exact ⟨h.1, .inl ⟨rfl, h0⟩⟩
  · exact ⟨h.1, .inr ⟨g, cap, cur, rfl, hb, (hk.block g (Array.getElem?_eq_some_iff.1 hg).1 (hn g rfl)).trans hg, r⟩⟩
theorem own_is (h : w.ownsRow base t size v n xs) : ∃ a cap, v = .slice a n cap ∧ n ≤ cap ∧ cap ≤ maxLen ∧ (0 < n → ∃ g, a = some ⟨g, 0, none⟩ ∧ v.ownBlock = some g ∧ base ≤ g ∧ g < w.heap.size ∧ (∀ i, w.frozen? ⟨g, i, none⟩ = false) ∧ ∀ i, i < n * size → w.cell? ⟨g, i, none⟩ = xs[i]?) := by
  rcases h.2 with ⟨rfl, h0⟩ | ⟨g, cap, cur, rfl, hb, hg, hnc, hcm, r⟩
  · exact ⟨none, 0, by rw [h0], by omega, by simp, fun h => by omega⟩
  · exact ⟨some ⟨g, 0, none⟩, cap, rfl, hnc, hcm, fun _ => ⟨g, rfl, rfl, hb, (Array.getElem?_eq_some_iff.1 hg).1, fun i => Bk.free (cs := cur) (t := t) hg i, fun i hi => World.ownsRow.cellAt h i hi⟩⟩
end

section
variable {P : Program} {ops : Array Oper} {rest : List Oper} {o : Oper} {a : Act} {w : World} {K : Act → World → Prop} {Q : Exit → Act → World → Prop} {E : Prop} {base : Nat} {t : TypeId} {size : Nat} {v : Value} {n : Nat} {xs : List Value}
theorem step_own (hgd : o.guard = none) (s x : Operand) (ts : TypeId) (ho : o.op = Op.call { callee := Callee.builtin Builtin.append, args := #[s, x], argTypes := #[ts, ts] })
    (z : Value) (bytes : Nat) (ht : P.underlying ts = some (.slice t)) (hi : (P.info? t).map (fun i => (i.zero, i.size, i.bytes)) = some (some z, size, bytes)) (hz : z.cells.size = size) (hsz : 0 < size) (hby : bytes ≤ 200)
    (h : w.ownsRow base t size v n xs) (hs : a.eval s = v) (news : List Value) (hnl : news.length = size) (hone : ∀ u ∈ news, u.oneCell' = true) (B : Nat) (hx : a.eval x = .slice (some ⟨B, 0, none⟩) 1 1)
    (hB : ∀ j u, news[j]? = some u → w.cell? ((⟨B, 0, none⟩ : Addr).add j) = some u) (hl : n < 100000) (hbase : base ≤ w.heap.size)
    (hK : ∀ v' w', w'.ownsRow base t size v' (n + 1) (xs ++ news) → w.grownBy w' v.ownBlock → (v'.ownBlock = v.ownBlock ∨ v'.ownBlock = some w.heap.size) → K (a.put o.dst v') w') :
    if Region.wanted o (yielded ops a.tmps) = true then Oper.wp P o a w K Q else E := by
  obtain ⟨i0, hi0, hz0, hz1, hz2⟩ := info_parts hi
  have hw : Region.wanted o (yielded ops a.tmps) = true := by simp [Region.wanted, hgd]
  rw [if_pos hw]
  obtain ⟨v', w', hr, h2, h3, h4, h5⟩ := run_append_own_at (P := P) w base ts o.type t i0 z size bytes ht hi0 hz0 hz1 hz2 hz hsz v n xs h ⟨B, 0, none⟩ 1 1 news (by omega) hB hone (by simp only [maxLen]; omega)
    (by have : (n + 1) * bytes ≤ 100001 * 200 := Nat.mul_le_mul (by omega) hby
        omega) hbase
  unfold Oper.wp
  simp [execOp, ho, resolve, invoke, builtin, hs, hx, hr, Result.andThen]
  exact hK v' w' h2 h3 h5

theorem wpOwn (hgd : o.guard = none) (s x : Operand) (ts : TypeId) (ho : o.op = Op.call { callee := Callee.builtin Builtin.append, args := #[s, x], argTypes := #[ts, ts] })
    (z : Value) (bytes : Nat) (ht : P.underlying ts = some (.slice t)) (hi : (P.info? t).map (fun i => (i.zero, i.size, i.bytes)) = some (some z, size, bytes)) (hz : z.cells.size = size) (hsz : 0 < size) (hby : bytes ≤ 200)
    (h : w.ownsRow base t size v n xs) (hs : a.eval s = v) (news : List Value) (hnl : news.length = size) (hone : ∀ u ∈ news, u.oneCell' = true) (B : Nat) (hx : a.eval x = .slice (some ⟨B, 0, none⟩) 1 1)
    (hB : ∀ j u, news[j]? = some u → w.cell? ((⟨B, 0, none⟩ : Addr).add j) = some u) (hl : n < 100000) (hbase : base ≤ w.heap.size)
    (hK : ∀ v' w', w'.ownsRow base t size v' (n + 1) (xs ++ news) → w.grownBy w' v.ownBlock → (v'.ownBlock = v.ownBlock ∨ v'.ownBlock = some w.heap.size) → wpList P ops Q rest (a.put o.dst v') w') :
    wpList P ops Q (o :: rest) a w := by
  obtain ⟨i0, hi0, hz0, hz1, hz2⟩ := info_parts hi
  refine wpList_append_own_at _ hgd s x ts ho base t i0 _ size bytes ht hi0 hz0 hz1 hz2 hz hsz v n xs hs h ⟨B, 0, none⟩ 1 1 news hx (by omega) hB hone (by simp only [maxLen]; omega)
    (by have : (n + 1) * bytes ≤ 100001 * 200 := Nat.mul_le_mul (by omega) hby
        omega) hbase fun v' w' h2 h3 _ h5 => hK v' w' h2 h3 h5
end
/-- Cells of a block, from its first one on, as an address' own. -/
theorem news_bk {w : World} {B : Nat} {t : TypeId} {cs : Array Value} (h : Bk w B t cs) : ∀ (j : Nat) (u : Value), cs.toList[j]? = some u → w.cell? ((⟨B, 0, none⟩ : Addr).add j) = some u := by
  intro j u hj
  have ea : (⟨B, 0, none⟩ : Addr).add j = ⟨B, j, none⟩ := by unfold Addr.add; split <;> simp_all
  rw [ea, h.cell j]
  simpa using hj
end Go.Proofs.YteohnkilchkhkaaGreatDoor
