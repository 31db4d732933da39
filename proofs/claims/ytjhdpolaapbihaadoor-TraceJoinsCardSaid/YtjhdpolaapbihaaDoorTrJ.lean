/- What Parse reads, and what Text writes, each from the other. No walk stands here. -/
import Derived.Test.YtjhdpolaapbihaaDoorTrI
namespace Go.Proofs.YtjhdpolaapbihaaDoor
set_option linter.unusedVariables false

theorem text_cons (x : En) (l : List En) : textT (x :: l) = lineT x ++ 10 :: textT l := by simp [textT]
/-- Whatever is read: entries that have lines, and their text; or nothing. -/
theorem read_inv : ∀ (k : Nat) (t : List UInt8) (acc : List En), t.length ≤ k →
    (∃ m, readT (linesL t) acc = (acc ++ m, (acc ++ m).length, 0) ∧ (∀ x ∈ m, Fit x) ∧ textT m = t ∧ m.length ≤ t.length) ∨ ∃ n, readT (linesL t) acc = ([], n, 8) ∧ n ≤ acc.length + t.length
  | k, [], acc, _ => .inl ⟨[], by simp [read_nil], by simp, rfl, Nat.le_refl _⟩
  | 0, c :: t, acc, h => by simp at h
  | k + 1, c :: t, acc, h => by
    rcases first_nl (c :: t) with hn | ⟨s, r, hn, e⟩
    · exact .inr ⟨acc.length, read_last hn (by simp) acc, by omega⟩
    · rw [e] at h ⊢
      rw [read_more r hn]
      cases hd : docT s with
      | none => exact .inr ⟨acc.length, rfl, by omega⟩
      | some x =>
        have hx := doc_iff.1 hd
        simp only
        rcases read_inv k r (acc ++ [x]) (by simp at h; omega) with ⟨m, h1, h2, h3, h4⟩ | ⟨n, h1, h2⟩
        · refine .inl ⟨x :: m, by rw [h1]; simp, fun y hy => ?_, ?_, by simp; omega⟩
          · rcases List.mem_cons.1 hy with rfl | hy
            · exact hx.1
            · exact h2 y hy
          · rw [text_cons, hx.2, h3]
        · exact .inr ⟨n, h1, by simp at h2 ⊢; omega⟩
/-- What was written is read. -/
theorem read_text : ∀ (m acc : List En), (∀ x ∈ m, Fit x) → readT (linesL (textT m)) acc = (acc ++ m, (acc ++ m).length, 0)
  | [], acc, _ => by simp [textT, read_nil]
  | x :: m, acc, h => by
    have F := h x List.mem_cons_self
    have ih := read_text m (acc ++ [x]) fun y hy => h y (List.mem_cons_of_mem _ hy)
    rw [text_cons, read_more _ (line_nl F), doc_iff.2 ⟨F, rfl⟩]
    simp only
    rw [ih]
    simp
theorem read_all {m : List En} (h : m.all fitsB = true) : readL (textT m) = (m, m.length, 0) := by
  have := read_text m [] fun x hx => fits_iff.1 (List.all_eq_true.1 h x hx)
  simpa [readL] using this
theorem read_or (t : List UInt8) : (∃ m, readL t = (m, m.length, 0) ∧ m.all fitsB = true ∧ textT m = t ∧ m.length ≤ t.length) ∨ ∃ n, readL t = ([], n, 8) ∧ n ≤ t.length := by
  rcases read_inv t.length t [] (Nat.le_refl _) with ⟨m, h1, h2, h3, h4⟩ | ⟨n, h1, h2⟩
  · exact .inl ⟨m, by simpa [readL] using h1, List.all_eq_true.2 fun x hx => fits_iff.2 (h2 x hx), h3, h4⟩
  · exact .inr ⟨n, h1, by simpa using h2⟩
end Go.Proofs.YtjhdpolaapbihaaDoor
