/- Areas of cells as plain lists: which sizes there may be, where each area begins, all cells in a row, and where each one lies: over any program. -/
import Derived.Test.YthhmplgheeldpaaRow
namespace Go.Proofs.Ythhmplgheeldpaa

/-- There may be areas of these sizes. -/
def RightZ (zs : List Int) : Prop := zs.length ≤ 8 ∧ ∀ k, k < zs.length → 0 ≤ nth zs k ∧ nth zs k ≤ 4096
/-- An area's size. -/
def sz (zs : List Int) (k : Nat) : Nat := (nth zs k).toNat
/-- Where an area begins. -/
def pre (zs : List Int) : Nat → Nat
  | 0 => 0
  | k + 1 => pre zs k + sz zs k
theorem pre_succ (zs : List Int) (k : Nat) : pre zs (k + 1) = pre zs k + sz zs k := rfl
/-- All of them together. -/
def tot (zs : List Int) : Nat := pre zs zs.length
/-- The cells of the first k areas: each one's area and place. -/
def celTo (zs : List Int) : Nat → List (Nat × Nat)
  | 0 => []
  | k + 1 => celTo zs k ++ (List.range (sz zs k)).map fun i => (k, i)
def cels (zs : List Int) : List (Nat × Nat) := celTo zs zs.length

section
variable {zs : List Int}
theorem sz_eq (h : RightZ zs) {k : Nat} (hk : k < zs.length) : nth zs k = (sz zs k : Int) := by
  have := (h.2 k hk).1; unfold sz; omega
theorem sz_le (h : RightZ zs) {k : Nat} (hk : k < zs.length) : sz zs k ≤ 4096 := by
  have := (h.2 k hk); unfold sz; omega
theorem pre_mono (zs : List Int) {a b : Nat} (h : a ≤ b) : pre zs a ≤ pre zs b := by
  induction b with
  | zero => obtain rfl : a = 0 := by omega
            exact Nat.le_refl _
  | succ b ih =>
    by_cases e : a = b + 1
    · subst e; exact Nat.le_refl _
    · exact Nat.le_trans (ih (by omega)) (by simp [pre])
theorem pre_le (h : RightZ zs) : ∀ k, k ≤ zs.length → pre zs k ≤ 4096 * k
  | 0, _ => Nat.le_refl _
  | k + 1, hk => by
    have h1 := pre_le h k (by omega)
    have h2 := sz_le h (k := k) (by omega)
    rw [pre_succ]; omega
theorem tot_le (h : RightZ zs) : tot zs ≤ 32768 := by
  have h1 := pre_le h zs.length (Nat.le_refl _)
  have h2 := h.1
  unfold tot; omega
theorem pre_tot {k : Nat} (hk : k ≤ zs.length) : pre zs k ≤ tot zs := pre_mono zs hk
theorem celTo_len (zs : List Int) : ∀ k, (celTo zs k).length = pre zs k
  | 0 => rfl
  | k + 1 => by simp [celTo, pre, celTo_len zs k]
theorem cels_len (zs : List Int) : (cels zs).length = tot zs := celTo_len zs _
/-- Where the cell of a place in an area stands. -/
theorem celTo_at (zs : List Int) : ∀ K a p, a < K → p < sz zs a → (celTo zs K)[pre zs a + p]? = some (a, p)
  | 0, a, p, ha, _ => by omega
  | K + 1, a, p, ha, hp => by
    unfold celTo
    rw [List.getElem?_append, celTo_len]
    by_cases e : a = K
    · subst e
      rw [if_neg (by omega), Nat.add_sub_cancel_left]
      simp [hp]
    · have h1 : pre zs (a + 1) ≤ pre zs K := pre_mono zs (by omega)
      rw [pre_succ] at h1
      rw [if_pos (by omega)]
      exact celTo_at zs K a p (by omega) hp
theorem cels_at {a p : Nat} (ha : a < zs.length) (hp : p < sz zs a) : (cels zs)[pre zs a + p]? = some (a, p) := celTo_at zs _ a p ha hp
/-- Each address lies somewhere. -/
theorem pre_split (zs : List Int) : ∀ K i, i < pre zs K → ∃ a p, a < K ∧ p < sz zs a ∧ i = pre zs a + p
  | 0, i, h => by unfold pre at h; omega
  | K + 1, i, h => by
    by_cases e : i < pre zs K
    · obtain ⟨a, p, h1, h2, h3⟩ := pre_split zs K i e
      exact ⟨a, p, by omega, h2, h3⟩
    · rw [pre_succ] at h
      exact ⟨K, i - pre zs K, by omega, by omega, by omega⟩
theorem tot_split {i : Nat} (h : i < tot zs) : ∃ a p, a < zs.length ∧ p < sz zs a ∧ i = pre zs a + p := pre_split zs _ i h
/-- .. and nowhere else. -/
theorem cels_only {i a p : Nat} (h : (cels zs)[i]? = some (a, p)) : a < zs.length ∧ p < sz zs a ∧ i = pre zs a + p := by
  have hi : i < (cels zs).length := (List.getElem?_eq_some_iff.1 h).1
  rw [cels_len] at hi
  obtain ⟨a', p', h1, h2, rfl⟩ := tot_split hi
  rw [cels_at h1 h2] at h
  simp only [Option.some.injEq, Prod.mk.injEq] at h
  obtain ⟨rfl, rfl⟩ := h
  exact ⟨h1, h2, rfl⟩
theorem pre_lt {a p : Nat} (ha : a < zs.length) (hp : p < sz zs a) : pre zs a + p < tot zs := by
  have h1 : pre zs (a + 1) ≤ tot zs := pre_tot (by omega)
  rw [pre_succ] at h1; omega

/-- A cell's two values, and those of a row of them. -/
def celC (c : Nat × Nat) : List Value := [.int .i64 c.1, .int .i64 c.2]
def celsC (l : List (Nat × Nat)) : List Value := l.flatMap celC
theorem celsC_snoc (l : List (Nat × Nat)) (c : Nat × Nat) : celsC (l ++ [c]) = celsC l ++ celC c := by simp [celsC]
theorem celsC_at : ∀ (l : List (Nat × Nat)) (k : Nat) (c : Nat × Nat), l[k]? = some c → (celsC l)[k * 2]? = some (.int .i64 c.1) ∧ (celsC l)[k * 2 + 1]? = some (.int .i64 c.2)
  | [], k, c, h => by simp at h
  | x :: l, 0, c, h => by simp at h; subst h; exact ⟨rfl, rfl⟩
  | x :: l, k + 1, c, h => by
    have ih := celsC_at l k c (by simpa using h)
    have e : celsC (x :: l) = .int .i64 x.1 :: .int .i64 x.2 :: celsC l := by simp [celsC, celC]
    rw [e, show (k + 1) * 2 = k * 2 + 1 + 1 by omega]
    exact ih
theorem celsC_one (l : List (Nat × Nat)) : ∀ u ∈ celsC l, u.oneCell' = true := by
  intro u hu
  simp only [celsC, celC, List.mem_flatMap] at hu
  obtain ⟨c, _, hc⟩ := hu
  simp at hc
  rcases hc with rfl | rfl <;> rfl
/-- One more of an area's cells. -/
def celPart (zs : List Int) (k i : Nat) : List (Nat × Nat) := celTo zs k ++ (List.range i).map fun i => (k, i)
theorem celPart_0 (zs : List Int) (k : Nat) : celPart zs k 0 = celTo zs k := by simp [celPart]
theorem celPart_all (zs : List Int) (k : Nat) : celPart zs k (sz zs k) = celTo zs (k + 1) := rfl
theorem celPart_next (zs : List Int) (k i : Nat) : celPart zs k (i + 1) = celPart zs k i ++ [(k, i)] := by simp [celPart, List.range_succ]
theorem celPart_len (zs : List Int) (k i : Nat) : (celPart zs k i).length = pre zs k + i := by simp [celPart, celTo_len]
end
end Go.Proofs.Ythhmplgheeldpaa
