/- The document's Words. -/
import Derived.Test.YtjhdpolaapbihaaDoorWdA
import Derived.Test.YtjhdpolaapbihaaDoorRow
namespace Go.Proofs.YtjhdpolaapbihaaDoor
open Go.ChangeShapes Go.WideShapes Go.ChangeAt Go.RowKit
set_option linter.unusedVariables false

/-- A byte ahead of the first word. -/
def ahead (c : UInt8) : List (List UInt8) → List (List UInt8)
  | [] => [[c]]
  | l :: r => (c :: l) :: r
/-- What stands between blanks. -/
def wordsL : List UInt8 → List (List UInt8)
  | [] => [[]]
  | c :: r => if c = 32 then [] :: wordsL r else ahead c (wordsL r)

theorem wordsL_pos : ∀ s, 0 < (wordsL s).length
  | [] => by simp [wordsL]
  | c :: r => by
    unfold wordsL
    split
    · simp
    · have := wordsL_pos r
      generalize wordsL r = ws at *
      cases ws with
      | nil => simp at this
      | cons a b => simp [ahead]
theorem wordsL_one : ∀ t : List UInt8, (∀ c ∈ t, c ≠ 32) → wordsL t = [t]
  | [], _ => rfl
  | c :: r, h => by
    unfold wordsL
    rw [if_neg (h c List.mem_cons_self), wordsL_one r fun d hd => h d (List.mem_cons_of_mem _ hd)]
    rfl
theorem wordsL_more : ∀ (t r : List UInt8), (∀ c ∈ t, c ≠ 32) → wordsL (t ++ 32 :: r) = t :: wordsL r
  | [], r, _ => by simp [wordsL]
  | c :: t, r, h => by
    have e : wordsL (c :: (t ++ 32 :: r)) = ahead c (wordsL (t ++ 32 :: r)) := by
      rw [wordsL, if_neg (h c List.mem_cons_self)]
    show wordsL (c :: (t ++ 32 :: r)) = _
    rw [e, wordsL_more t r fun d hd => h d (List.mem_cons_of_mem _ hd)]
    rfl
theorem wordsL_len : ∀ s : List UInt8, (wordsL s).length ≤ s.length + 1
  | [] => by simp [wordsL]
  | c :: r => by
    have h := wordsL_len r
    unfold wordsL
    split
    · simp; omega
    · generalize wordsL r = ws at *
      cases ws with
      | nil => simp [ahead]
      | cons a b => simp [ahead] at *; omega
theorem wordsL_le : ∀ s : List UInt8, ∀ l ∈ wordsL s, l.length ≤ s.length
  | [], l, h => by simp [wordsL] at h; subst h; simp
  | c :: r, l, h => by
    have ih := wordsL_le r
    unfold wordsL at h
    split at h
    · rcases List.mem_cons.1 h with rfl | h
      · simp
      · have := ih l h; simp; omega
    · generalize wordsL r = ws at *
      cases ws with
      | nil => simp [ahead] at h; subst h; simp
      | cons a b =>
        simp only [ahead] at h
        rcases List.mem_cons.1 h with rfl | h
        · have := ih a List.mem_cons_self; simp; omega
        · have := ih l (List.mem_cons_of_mem _ h); simp; omega

/-- At place i of s, the word that is under way begun at f: the words so far. -/
structure WordsAt (s : List UInt8) (out : List (List UInt8)) (f i : Nat) : Prop where
  le : f ≤ i
  no : ∀ j, f ≤ j → j < i → s.getD j 0 ≠ 32
  all : out ++ wordsL (s.drop f) = wordsL s
  few : out.length ≤ f

theorem cut_no {s : List UInt8} {f i : Nat} (hi : i ≤ s.length) (h : ∀ j, f ≤ j → j < i → s.getD j 0 ≠ 32) : ∀ c ∈ (s.take i).drop f, c ≠ 32 := by
  intro c hc
  obtain ⟨n, hn, rfl⟩ := List.getElem_of_mem hc
  have h1 := h (f + n) (by omega) (by simp at hn; omega)
  simp at hn
  rw [List.getElem_drop, List.getElem_take]
  simpa [show f + n < s.length by omega] using h1
theorem WordsAt.blank {s : List UInt8} {out : List (List UInt8)} {f i : Nat} (h : WordsAt s out f i) (hi : i < s.length) (hc : s.getD i 0 = 32) : WordsAt s (out ++ [(s.take i).drop f]) (i + 1) (i + 1) := by
  refine ⟨Nat.le_refl _, fun j h1 h2 => by omega, ?_, by have := h.few; have := h.le; simp; omega⟩
  rw [← h.all, List.append_assoc]
  congr 1
  have e : s.drop f = (s.take i).drop f ++ 32 :: s.drop (i + 1) := by
    have e1 : s = s.take i ++ 32 :: s.drop (i + 1) := by
      have hg : s[i] = 32 := by simpa [hi] using hc
      rw [← hg, ← List.drop_eq_getElem_cons hi, List.take_append_drop]
    have hle : f ≤ (s.take i).length := by have := h.le; simp; omega
    rw [← List.drop_append_of_le_length hle, ← e1]
  rw [e, wordsL_more _ _ (cut_no (by omega) h.no)]
  rfl
theorem WordsAt.last {s : List UInt8} {out : List (List UInt8)} {f : Nat} (h : WordsAt s out f s.length) : out ++ [(s.take s.length).drop f] = wordsL s := by
  rw [← h.all]
  congr 1
  have := cut_no (Nat.le_refl _) h.no
  rw [List.take_length] at this ⊢
  rw [wordsL_one _ this]
theorem WordsAt.on {s : List UInt8} {out : List (List UInt8)} {f i : Nat} (h : WordsAt s out f i) (hc : s.getD i 0 ≠ 32) : WordsAt s out f (i + 1) :=
  ⟨by have := h.le; omega, fun j h1 h2 => by
    by_cases e : j = i
    · subst e; exact hc
    · exact h.no j h1 (by omega), h.all, h.few⟩

/-- The words as values. -/
def wvs (ws : List (List UInt8)) : List Value := ws.map bs
theorem wvs_snoc (ws : List (List UInt8)) (l : List UInt8) : wvs (ws ++ [l]) = wvs ws ++ [.string ⟨l.toArray⟩] := by simp [wvs, bs]


set_option maxHeartbeats 1000000 in
theorem rWords (s : List UInt8) (hl : s.length < 100000) (w : World) :
    Calls Tryd.prog 37 #[bs s] w fun e w' => ∃ v, e = .returned v ∧ Vls 9 w' v (wvs (wordsL s)) ∧ Below w.heap.size w w' := by
  unfold bs
  go_enter Tryd.func37, Tryd.ntmps37
  go_wp2
  go_loopw [3, 4, 5] (fun o f i x => ∃ (out : List (List UInt8)) (fn n : Nat), i = .int .i64 n ∧ f = .int .i64 fn ∧ Vls 9 x o (wvs out) ∧ Below w.heap.size w x ∧ (∀ g, o.ownBlock = some g → w.heap.size ≤ g) ∧ n ≤ s.length + 1 ∧ ((n ≤ s.length ∧ WordsAt s out fn n) ∨ (n = s.length + 1 ∧ out = wordsL s))) (fun _ _ i _ => s.length + 1 - (intOf i).toNat)
  case atStart => exact ⟨[], 0, 0, rfl, rfl, Vls.nil _ _, Below.refl _ _, (fun g e => by cases e), by omega, .inl ⟨by omega, ⟨Nat.le_refl _, fun j h1 h2 => by omega, rfl, Nat.le_refl _⟩⟩⟩
  case round =>
    obtain ⟨out, fn, n, rfl, rfl, hV, hb, hown, hn, hW⟩ := hrel
    rcases hW with ⟨hle, hW⟩ | ⟨rfl, rfl⟩
    · have hfew := hW.few
      have hfl := hW.le
      have hvl : (wvs out).length = out.length := by simp [wvs]
      by_cases hend : n = s.length
      · subst hend
        have hcut := run_cutS s fn s.length hfl (Nat.le_refl _)
        have hlast := hW.last
        generalize (s.take s.length).drop fn = wd at *
        have HL := Lib.hid hlast
        clear hlast
        have hle2 : (s.length : Int) ≤ (s.length : Int) := by omega
        go_wp2_with (at_builtin; refine wpVlsApp (by rfl) _ _ 77 (by rfl) (.string ⟨#[]⟩) 16 Tryd.underlying77 (by kernel_rfl) rfl (by decide) hV (by rfl) (.string ⟨wd.toArray⟩) rfl (by rfl) (by omega) ?_; intro v' x' hV' hg hloc)
        have hb2 : Below w.heap.size w x' := hb.grown hg hb.size hown
        have hown2 : ∀ g, v'.ownBlock = some g → w.heap.size ≤ g := by
          intro g e
          rcases hloc with h | h
          · exact hown g (h ▸ e)
          · rw [h] at e; injection e with e; have := hb.size; omega
        go_roundw
        case rel => exact ⟨out ++ [wd], s.length + 1, s.length + 1, by go_num, by go_num, by rw [wvs_snoc]; exact hV', hb2, hown2, by omega, .inr ⟨rfl, HL.out⟩⟩
        case measure => (simp [intOf] <;> omega)
      · have hlt : n < s.length := by omega
        have hidx := run_ltr s n hlt
        have dne : ((n : Int) == (s.length : Int)) = false := by simp; omega
        have dle : (n : Int) ≤ (s.length : Int) := by omega
        by_cases hc : s.getD n 0 = 32
        · have hW2 := hW.blank hlt hc
          have hcut := run_cutS s fn n hfl hle
          rw [hc] at hidx
          have e32 : (((32 : UInt8).toNat : Nat) : Int) = 32 := rfl
          rw [e32] at hidx
          clear e32 hc
          generalize (s.take n).drop fn = wd at *
          go_wp2_with (at_builtin; refine wpVlsApp (by rfl) _ _ 77 (by rfl) (.string ⟨#[]⟩) 16 Tryd.underlying77 (by kernel_rfl) rfl (by decide) hV (by rfl) (.string ⟨wd.toArray⟩) rfl (by rfl) (by omega) ?_; intro v' x' hV' hg hloc)
          have hb2 : Below w.heap.size w x' := hb.grown hg hb.size hown
          have hown2 : ∀ g, v'.ownBlock = some g → w.heap.size ≤ g := by
            intro g e
            rcases hloc with h | h
            · exact hown g (h ▸ e)
            · rw [h] at e; injection e with e; have := hb.size; omega
          go_roundw
          case rel => exact ⟨out ++ [wd], n + 1, n + 1, by go_num, by go_num, by rw [wvs_snoc]; exact hV', hb2, hown2, by omega, .inl ⟨by omega, hW2⟩⟩
          case measure => (simp [intOf] <;> omega)
        · have hW2 := hW.on hc
          have dc : ((((s.getD n 0).toNat : Nat) : Int) == 32) = false := by
            have h : (s.getD n 0).toNat ≠ 32 := fun e => hc (UInt8.toNat_inj.1 e)
            generalize (s.getD n 0).toNat = c at *
            simp; omega
          generalize (s.getD n 0).toNat = c at *
          clear hc
          go_wp2
          go_roundw
          case rel => exact ⟨out, fn, n + 1, by go_num, rfl, hV, hb, hown, by omega, .inl ⟨by omega, hW2⟩⟩
          case measure => (simp [intOf] <;> omega)
    · go_wp2
      go_ret
      exact ⟨_, rfl, hV, hb⟩
end Go.Proofs.YtjhdpolaapbihaaDoor
