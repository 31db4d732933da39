/- What is assembled, line by line; what is printed, instruction by instruction: in the steps of a loop. No walk stands here. -/
import Derived.Test.YteohnkilchkhkaaGreatDoorAsmQ
namespace Go.Proofs.YteohnkilchkhkaaGreatDoor
set_option linter.unusedVariables false

/-- The end: places of names, lock and unlock. -/
def finishL (ls : List (List UInt8 × Int)) (rs : List (Ins × List UInt8 × Int)) : Prg × Int × Int :=
  match asm2 ls rs.length rs with
  | .inl (n, e) => (Prg.zero, n, e)
  | .inr l => if findL ls lockW rs.length < 0 ∨ findL ls unlockW rs.length < 0 then (Prg.zero, 0, 10)
    else (⟨l, findL ls lockW rs.length, findL ls unlockW rs.length⟩, 0, 0)
/-- What is assembled of the rest t of a text, from line n on. -/
def asmGo (t : List UInt8) (n : Int) (ls : List (List UInt8 × Int)) (rs : List (Ins × List UInt8 × Int)) : Prg × Int × Int :=
  match asm1 (piecesL t).dropLast n ls rs with
  | .inl (m, e) => (Prg.zero, m, e)
  | .inr (ls, rs) => if (piecesL t).getLastD [] ≠ [] then (Prg.zero, n + (piecesL t).length - 1, 8) else finishL ls rs
theorem asmGo_all (text : List UInt8) : asmL text = asmGo text 1 [] [] := by
  have e : (1 : Int) + ((piecesL text).length : Int) - 1 = ((piecesL text).length : Int) := by omega
  unfold asmL asmGo finishL
  rw [e]
  rfl
theorem dropLast_cons {α : Type} (x : α) (l : List α) (h : l ≠ []) : (x :: l).dropLast = x :: l.dropLast := by
  cases l with
  | nil => exact absurd rfl h
  | cons a b => rfl
theorem getLastD_cons' {α : Type} (x d : α) (l : List α) (h : l ≠ []) : (x :: l).getLastD d = l.getLastD d := by
  cases l with
  | nil => exact absurd rfl h
  | cons a b => rfl
/-- One line. -/
theorem asmGo_line (s r : List UInt8) (h : Nl s) (n : Int) (ls : List (List UInt8 × Int)) (rs : List (Ins × List UInt8 × Int)) :
    asmGo (s ++ 10 :: r) n ls rs =
      if lbB s = true then (if (ls.any fun x => x.1 == s.dropLast) = true then (Prg.zero, n, 2) else asmGo r (n + 1) (ls ++ [(s.dropLast, (rs.length : Int))]) rs)
      else match lineL s with
        | none => (Prg.zero, n, 8)
        | some (i, nm) => if 64 ≤ rs.length then (Prg.zero, n, 9) else asmGo r (n + 1) ls (rs ++ [(i, nm, n)]) := by
  have hp := pieces_more s r h
  have hne := piecesL_ne r
  have e : n + ((piecesL (s ++ 10 :: r)).length : Int) - 1 = n + 1 + ((piecesL r).length : Int) - 1 := by
    rw [hp]
    simp
    omega
  unfold asmGo
  rw [e, hp, dropLast_cons _ _ hne, getLastD_cons' _ _ _ hne]
  simp only [asm1]
  by_cases h1 : lbB s = true
  · simp only [h1, if_true]
    by_cases h2 : (ls.any fun x => x.1 == s.dropLast) = true
    · simp only [h2, if_true]
    · simp only [h2]
      rfl
  · simp only [h1]
    cases hl : lineL s with
    | none => simp
    | some q =>
      obtain ⟨i, nm⟩ := q
      simp only
      by_cases h3 : 64 ≤ rs.length
      · simp [h3]
      · simp [h3]
/-- The rest without an end of line. -/
theorem asmGo_end (s : List UInt8) (h : Nl s) (n : Int) (ls : List (List UInt8 × Int)) (rs : List (Ins × List UInt8 × Int)) : asmGo s n ls rs = if s ≠ [] then (Prg.zero, n, 8) else finishL ls rs := by
  have hp : ∀ t : List UInt8, Nl t → piecesL t = [t] := by
    intro t
    induction t with
    | nil => intro _; rfl
    | cons c t ih =>
      intro ht
      rw [piecesL, if_neg (ht c List.mem_cons_self), ih fun d hd => ht d (List.mem_cons_of_mem _ hd)]
      rfl
  unfold asmGo
  rw [hp s h]
  simp [asm1]

theorem linesFrom_snoc (c : Prg) (i : Ins) : ∀ (l : List Ins) (k : Int), linesFrom c (l ++ [i]) k = linesFrom c l k ++ ((labsAt c (k + l.length)).map (fun s => s ++ [58]) ++ [insLine c i])
  | [], k => by simp [linesFrom]
  | j :: m, k => by
    have ih := linesFrom_snoc c i m (k + 1)
    have e : k + 1 + (m.length : Int) = k + ((j :: m).length : Int) := by simp; omega
    rw [e] at ih
    simp [linesFrom, ih]
theorem itoa_bf {n : Int} (h : 0 ≤ n) : Bf (Lib.itoa n) := by
  rw [itoa_nn h]
  exact dec_bf _
/-- The text of an instruction that goes to a place, up to its last word. -/
theorem headW_text (i : Ins) (hg : goesB i = true) (h0 : 0 ≤ i.pl) : headW (textL i) = headI i := by
  obtain ⟨a, ha⟩ := headI_end i
  rw [text_goes i hg h0, ha, show a ++ [32] ++ Lib.itoa i.pl = a ++ 32 :: Lib.itoa i.pl by simp, headW_cat a _ (itoa_bf h0)]

/-- The second turn, row by row. -/
theorem asm2_skip (ls : List (List UInt8 × Int)) (n : Int) (i : Ins) (row : Int) (more : List (Ins × List UInt8 × Int)) :
    asm2 ls n ((i, [], row) :: more) = match asm2 ls n more with | .inl e => .inl e | .inr l => .inr (i :: l) := by
  simp only [asm2]
  rfl
theorem asm2_name (ls : List (List UInt8 × Int)) (n : Int) (i : Ins) (nm : List UInt8) (hn : nm ≠ []) (row : Int) (more : List (Ins × List UInt8 × Int)) :
    asm2 ls n ((i, nm, row) :: more) = if findL ls nm n < 0 then .inl (row, 10) else match asm2 ls n more with | .inl e => .inl e | .inr l => .inr ({ i with pl := findL ls nm n } :: l) := by
  simp only [asm2]
  rw [if_neg hn]
  rfl
end Go.Proofs.YteohnkilchkhkaaGreatDoor
