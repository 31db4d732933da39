/- A slice that the call itself has made, of ints: its row, and what becomes of it. Over any program. -/
import Derived.Test.YtipekdeghelpaaaRow
namespace Go.Proofs.Ytipekdeghelpaaa
open Go.ChangeShapes Go.WideShapes Go.ChangeAt Go.RowKit

/-- The slice at block q, of capacity cap, has just the ints xs. -/
def Its (w : World) (q cap : Nat) (xs : List Int) : Prop := w.ownsRow 0 3 1 (.slice (some ⟨q, 0, none⟩) xs.length cap) xs.length (xs.map (Value.int .i64))
section
variable {w w' : World} {q cap : Nat} {xs : List Int}
theorem Its.lt (h : Its w q cap xs) : q < w.heap.size := (World.ownsRow.lt h q rfl).2
theorem Its.at_ (h : Its w q cap xs) {i : Nat} (hi : i < xs.length) : w.cell? ⟨q, i, none⟩ = some (.int .i64 (nth xs i)) := by
  rw [World.ownsRow.cellAt h i (by omega), List.getElem?_map, nth_get hi]; rfl
theorem Its.bk (h : Its w q cap xs) : ∃ cs, Bk w q 3 cs ∧ cs.size = cap ∧ xs.length ≤ cap ∧ cap ≤ maxLen := by
  rcases h.2 with ⟨h', _⟩ | ⟨g', cap', cur, h', hb, hg, hnc, hcm, hcs, htake⟩
  · simp at h'
  · simp only [Value.slice.injEq, Option.some.injEq, Addr.mk.injEq, and_true, true_and] at h'
    obtain ⟨rfl, rfl⟩ := h'
    exact ⟨cur, hg, by omega, hnc, hcm⟩
theorem Its.free (h : Its w q cap xs) (i : Nat) : w.frozen? ⟨q, i, none⟩ = false := by obtain ⟨cs, hb, _⟩ := h.bk; exact hb.free i
theorem Its.caps (h : Its w q cap xs) : xs.length ≤ cap ∧ cap ≤ maxLen := by obtain ⟨cs, _, _, h1, h2⟩ := h.bk; exact ⟨h1, h2⟩
theorem Its.put (h : Its w q cap xs) (i : Nat) (v : Int) : Its (w.setCell ⟨q, i, none⟩ (.int .i64 v)) q cap (xs.set i v) := by
  have := (World.ownsRow.stored h i (.int .i64 v)).1
  unfold Its; rw [List.length_set, List.map_set]; exact this
theorem Its.kept {r : Option Nat} (h : Its w q cap xs) (hg : w.grownBy w' r) (hne : some q ≠ r) : Its w' q cap xs := World.ownsRow.kept h hg (.inr hne)
theorem Its.within {S : Nat → Prop} (h : Its w q cap xs) (k : Within w w' S) (hn : ¬ S q) : Its w' q cap xs := by
  rcases h.2 with ⟨h', _⟩ | ⟨g', cap', cur, h', hb, hg, hnc, hcm, hcs, htake⟩
  · simp at h'
  · simp only [Value.slice.injEq, Option.some.injEq, Addr.mk.injEq, and_true, true_and] at h'
    obtain ⟨rfl, rfl⟩ := h'
    exact ⟨h.1, .inr ⟨q, cap, cur, rfl, hb, (k.block q (Array.getElem?_eq_some_iff.1 hg).1 hn).trans hg, hnc, hcm, hcs, htake⟩⟩
theorem Its.of_own {base n : Nat} {v : Value} (h : w.ownsRow base 3 1 v n (xs.map (Value.int .i64))) (hn : 0 < n) : ∃ q cap, v = .slice (some ⟨q, 0, none⟩) xs.length cap ∧ Its w q cap xs ∧ base ≤ q := by
  have hl : xs.length = n := by have := h.1; simpa using this
  subst hl
  rcases h.2 with ⟨_, h0⟩ | ⟨g, cap, cur, rfl, hb, rest⟩
  · omega
  · exact ⟨g, cap, rfl, ⟨h.1, .inr ⟨g, cap, cur, rfl, Nat.zero_le _, rest⟩⟩, hb⟩
theorem Its.of_bk (h : Bk w q 3 (xs.map (Value.int .i64)).toArray) (hn : xs.length ≤ maxLen) : Its w q xs.length xs :=
  ⟨by simp, .inr ⟨q, xs.length, _, rfl, Nat.zero_le _, h, Nat.le_refl _, hn, by simp, by simp [List.take_of_length_le]⟩⟩
theorem Its.made (w : World) (n : Nat) (hn : n ≤ maxLen) : Its (w.alloc (.cells (madeCells #[.int .i64 0] n) 3)) w.heap.size n (List.replicate n 0) := by
  have h := Bk.made w 3 (madeCells #[.int .i64 0] n)
  have e : madeCells #[.int .i64 0] n = ((List.replicate n (0 : Int)).map (Value.int .i64)).toArray := by
    apply Array.ext
    · simp [madeCells]
    · intro i h1 h2; simp [madeCells, Nat.mod_one]
  have h2 : Bk (w.alloc (.cells (madeCells #[.int .i64 0] n) 3)) w.heap.size 3 ((List.replicate n (0 : Int)).map (Value.int .i64)).toArray := by rw [← e]; exact h
  have := Its.of_bk h2 (by simpa using hn)
  simpa using this
/-- What is read off such a slice, in the spelling of append's law. -/
theorem Its.news (h : Its w q cap xs) : ∀ j u, (xs.map (Value.int .i64))[j]? = some u → w.cell? ((⟨q, 0, none⟩ : Addr).add j) = some u := by
  intro j u hj
  have hj' : j < xs.length := by have := (List.getElem?_eq_some_iff.1 hj).1; simpa using this
  rw [List.getElem?_map, nth_get hj'] at hj
  have e : (⟨q, 0, none⟩ : Addr).add j = ⟨q, j, none⟩ := by unfold Addr.add; split <;> simp_all
  rw [e, h.at_ hj', ← hj]; rfl
end
theorem intinfo : (Try.prog.info? 3).map (fun i => (i.zero, i.size, i.bytes)) = some (some (.int .i64 0), 1, 8) := by kernel_rfl
end Go.Proofs.Ytipekdeghelpaaa
