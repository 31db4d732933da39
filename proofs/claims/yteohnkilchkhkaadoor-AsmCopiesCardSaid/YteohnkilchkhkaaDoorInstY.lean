/- The document's Words. -/
import Derived.Test.YteohnkilchkhkaaDoorInstL
import Derived.Test.YteohnkilchkhkaaDoorInstB
import Derived.Test.YteohnkilchkhkaaDoorVls
namespace Go.Proofs.YteohnkilchkhkaaDoor
open Go.ChangeShapes Go.WideShapes Go.ChangeAt Go.RowKit
set_option linter.unusedVariables false

/-- A byte ahead of the first word. -/
def ahead (c : UInt8) : List (List UInt8) → List (List UInt8)
  | [] => [[c]]
  | l :: r => (c :: l) :: r
/-- What stands between blanks. -/
def wordsL : List UInt8 → List (List UInt8)
  | [] => [[]]
  | c :: r => if c = 32 then [] :: wordsL r else ahead c (wordsL r)

theorem wordsL_pos : ∀ s, 0 < (wordsL s).length
  | [] => by simp [wordsL]
  | c :: r => by
    unfold wordsL
    split
    · simp
    · have := wordsL_pos r
      generalize wordsL r = ws at *
      cases ws with
      | nil => simp at this
      | cons a b => simp [ahead]
theorem wordsL_one : ∀ t : List UInt8, (∀ c ∈ t, c ≠ 32) → wordsL t = [t]
  | [], _ => rfl
  | c :: r, h => by
    unfold wordsL
    rw [if_neg (h c List.mem_cons_self), wordsL_one r fun d hd => h d (List.mem_cons_of_mem _ hd)]
    rfl
theorem wordsL_more : ∀ (t r : List UInt8), (∀ c ∈ t, c ≠ 32) → wordsL (t ++ 32 :: r) = t :: wordsL r
  | [], r, _ => by simp [wordsL]
  | c :: t, r, h => by
    have e : wordsL (c :: (t ++ 32 :: r)) = ahead c (wordsL (t ++ 32 :: r)) := by
      rw [wordsL, if_neg (h c List.mem_cons_self)]
    show wordsL (c :: (t ++ 32 :: r)) = _
    rw [e, wordsL_more t r fun d hd => h d (List.mem_cons_of_mem _ hd)]
    rfl
theorem wordsL_len : ∀ s : List UInt8, (wordsL s).length ≤ s.length + 1
  | [] => by simp [wordsL]
  | c :: r => by
    have h := wordsL_len r
    unfold wordsL
    split
    · simp; omega
    · generalize wordsL r = ws at *
      cases ws with
      | nil => simp [ahead]
      | cons a b => simp [ahead] at *; omega
theorem wordsL_le : ∀ s : List UInt8, ∀ l ∈ wordsL s, l.length ≤ s.length
  | [], l, h => by simp [wordsL] at h; subst h; simp
  | c :: r, l, h => by
    have ih := wordsL_le r
    unfold wordsL at h
    split at h
    · rcases List.mem_cons.1 h with rfl | h
      · simp
      · have := ih l h; simp; omega
    · generalize wordsL r = ws at *
      cases ws with
      | nil => simp [ahead] at h; subst h; simp
      | cons a b =>
        simp only [ahead] at h
        rcases List.mem_cons.1 h with rfl | h
        · have := ih a List.mem_cons_self; simp; omega
        · have := ih l (List.mem_cons_of_mem _ h); simp; omega

/-- At place i of s, the word that is under way begun at f: the words so far. -/
structure WordsAt (s : List UInt8) (out : List (List UInt8)) (f i : Nat) : Prop where
  le : f ≤ i
  no : ∀ j, f ≤ j → j < i → s.getD j 0 ≠ 32
  all : out ++ wordsL (s.drop f) = wordsL s
  few : out.length ≤ f

theorem cut_no {s : List UInt8} {f i : Nat} (hi : i ≤ s.length) (h : ∀ j, f ≤ j → j < i → s.getD j 0 ≠ 32) : ∀ c ∈ (s.take i).drop f, c ≠ 32 := by
  intro c hc
  obtain ⟨n, hn, rfl⟩ := List.getElem_of_mem hc
  have h1 := h (f + n) (by omega) (by simp at hn; omega)
  simp at hn
  rw [List.getElem_drop, List.getElem_take]
  simpa [show f + n < s.length by omega] using h1
theorem WordsAt.blank {s : List UInt8} {out : List (List UInt8)} {f i : Nat} (h : WordsAt s out f i) (hi : i < s.length) (hc : s.getD i 0 = 32) : WordsAt s (out ++ [(s.take i).drop f]) (i + 1) (i + 1) := by
  refine ⟨Nat.le_refl _, fun j h1 h2 => by omega, ?_, by have := h.few; have := h.le; simp; omega⟩
  rw [← h.all, List.append_assoc]
  congr 1
  have e : s.drop f = (s.take i).drop f ++ 32 :: s.drop (i + 1) := by
    have e1 : s = s.take i ++ 32 :: s.drop (i + 1) := by
      have hg : s[i] = 32 := by simpa [hi] using hc
      rw [← hg, ← List.drop_eq_getElem_cons hi, List.take_append_drop]
    have hle : f ≤ (s.take i).length := by have := h.le; simp; omega
    rw [← List.drop_append_of_le_length hle, ← e1]
  rw [e, wordsL_more _ _ (cut_no (by omega) h.no)]
  rfl
theorem WordsAt.last {s : List UInt8} {out : List (List UInt8)} {f : Nat} (h : WordsAt s out f s.length) : out ++ [(s.take s.length).drop f] = wordsL s := by
  rw [← h.all]
  congr 1
  have := cut_no (Nat.le_refl _) h.no
  rw [List.take_length] at this ⊢
  rw [wordsL_one _ this]
theorem WordsAt.on {s : List UInt8} {out : List (List UInt8)} {f i : Nat} (h : WordsAt s out f i) (hc : s.getD i 0 ≠ 32) : WordsAt s out f (i + 1) :=
  ⟨by have := h.le; omega, fun j h1 h2 => by
    by_cases e : j = i
    · subst e; exact hc
    · exact h.no j h1 (by omega), h.all, h.few⟩

/-- A slice of a string. -/
theorem run_cutS (s : List UInt8) (f i : Nat) (h : f ≤ i) (hi : i ≤ s.length) (w : World) : (Instr.slice 9 (.string ⟨s.toArray⟩) (some (.int .i64 f)) (some (.int .i64 i)) none).run Tryd.prog w = .ok (.string ⟨((s.take i).drop f).toArray⟩) w := by
  have hu := Tryd.underlying9
  go_simp
  apply ByteArray.ext
  rw [ByteArray.data_extract]
  apply Array.ext'
  simp [List.drop_take]

/-- The words as values. -/
def wvs (ws : List (List UInt8)) : List Value := ws.map bs
theorem wvs_snoc (ws : List (List UInt8)) (l : List UInt8) : wvs (ws ++ [l]) = wvs ws ++ [.string ⟨l.toArray⟩] := by simp [wvs, bs]


end Go.Proofs.YteohnkilchkhkaaDoor
