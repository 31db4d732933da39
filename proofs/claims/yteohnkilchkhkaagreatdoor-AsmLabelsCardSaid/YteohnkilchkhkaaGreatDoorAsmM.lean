/- Programs as plain lists: names, lines, what is assembled of a text, and a program's own text. No walk stands here. -/
import Derived.Test.YteohnkilchkhkaaGreatDoorInstJ
import Derived.Test.YteohnkilchkhkaaGreatDoorAsmL
namespace Go.Proofs.YteohnkilchkhkaaGreatDoor
set_option linter.unusedVariables false

theorem draftR_k (ws : List (List UInt8)) : 0 ≤ (draftR ws).k ∧ (draftR ws).k < 4294967296 := by
  have hk : 0 ≤ kOf ws.tail ∧ kOf ws.tail < 4294967296 := by unfold kOf; split <;> omega
  unfold draftR finI
  generalize kOf ws.tail = k at *
  repeat' split
  all_goals (simp only; omega)

/-- The instruction that a text is; none: it is none. -/
def prs (s : List UInt8) : Option Ins := if parseRB s = true then some (draftR (wordsL s)) else none
theorem prs_iff (s : List UInt8) (i : Ins) : prs s = some i ↔ rightB i 1073741824 = true ∧ 0 ≤ i.k ∧ i.k < 4294967296 ∧ textL i = s := by
  unfold prs
  constructor
  · intro h
    split at h
    · rename_i hp
      injection h with h
      subst h
      have hp2 := hp
      unfold parseRB at hp2
      simp only [Bool.and_eq_true, decide_eq_true_eq] at hp2
      exact ⟨hp2.2.1, (draftR_k _).1, (draftR_k _).2, hp2.2.2⟩
    · cases h
  · rintro ⟨hr, k0, k1, rfl⟩
    rw [if_pos (parseR_text i hr k0 k1), (draftR_text i hr k0 k1).2]

def lastW (s : List UInt8) : List UInt8 := (wordsL s).getLastD []
def headW (s : List UInt8) : List UInt8 := s.take (s.length - (lastW s).length)

/-- An instruction, the name of its place; none: it is none. -/
def lineL (s : List UInt8) : Option (Ins × List UInt8) :=
  match prs (headW s ++ [48]) with
  | some i => if goesB i = true ∧ nameB (lastW s) = true then some (i, lastW s)
    else match prs s with
      | some j => if goesB j = true then none else some (j, [])
      | none => none
  | none => match prs s with
    | some j => if goesB j = true then none else some (j, [])
    | none => none

/-- A label's line. -/
def lbB (s : List UInt8) : Bool := !s.isEmpty && (decide (s.getLastD 0 = 58) && nameB s.dropLast)

/-- The pieces of a text between its ends of line. -/
def piecesL : List UInt8 → List (List UInt8)
  | [] => [[]]
  | c :: r => if c = 10 then [] :: piecesL r else ahead c (piecesL r)

/-- The first turn: labels with their places, instructions with the names of their places and their lines; or a line and an error. -/
def asm1 : List (List UInt8) → Int → List (List UInt8 × Int) → List (Ins × List UInt8 × Int) → (Int × Int) ⊕ (List (List UInt8 × Int) × List (Ins × List UInt8 × Int))
  | [], _, ls, rs => .inr (ls, rs)
  | s :: more, n, ls, rs =>
    if lbB s = true then
      if (ls.any fun x => x.1 == s.dropLast) = true then .inl (n, 2) else asm1 more (n + 1) (ls ++ [(s.dropLast, (rs.length : Int))]) rs
    else match lineL s with
      | none => .inl (n, 8)
      | some (i, nm) => if 64 ≤ rs.length then .inl (n, 9) else asm1 more (n + 1) ls (rs ++ [(i, nm, n)])

/-- A label's place, less than n; -1: none. -/
def findL (ls : List (List UInt8 × Int)) (s : List UInt8) (n : Int) : Int :=
  match ls.find? fun x => x.1 == s && decide (x.2 < n) with
  | some x => x.2
  | none => -1

/-- The second turn. -/
def asm2 (ls : List (List UInt8 × Int)) (n : Int) : List (Ins × List UInt8 × Int) → (Int × Int) ⊕ List Ins
  | [] => .inr []
  | (i, nm, row) :: more =>
    if nm = [] then
      match asm2 ls n more with
      | .inl e => .inl e
      | .inr l => .inr (i :: l)
    else if findL ls nm n < 0 then .inl (row, 10)
    else match asm2 ls n more with
      | .inl e => .inl e
      | .inr l => .inr ({ i with pl := findL ls nm n } :: l)

/-- A program. -/
structure Prg where
  l : List Ins
  lo : Int
  un : Int
def Prg.zero : Prg := ⟨[], 0, 0⟩

def lockW : List UInt8 := [108, 111, 99, 107]
def unlockW : List UInt8 := [117, 110, 108, 111, 99, 107]

/-- What is assembled of a text: the program, the line, the error. -/
def asmL (text : List UInt8) : Prg × Int × Int :=
  match asm1 (piecesL text).dropLast 1 [] [] with
  | .inl (n, e) => (Prg.zero, n, e)
  | .inr (ls, rs) =>
    if (piecesL text).getLastD [] ≠ [] then (Prg.zero, ((piecesL text).length : Int), 8)
    else match asm2 ls rs.length rs with
      | .inl (n, e) => (Prg.zero, n, e)
      | .inr l => if findL ls lockW rs.length < 0 ∨ findL ls unlockW rs.length < 0 then (Prg.zero, 0, 10)
        else (⟨l, findL ls lockW rs.length, findL ls unlockW rs.length⟩, 0, 0)

/-- May a program be? -/
def prgB (c : Prg) : Bool := decide (1 ≤ c.l.length) && (decide (c.l.length ≤ 64) && (decide (0 ≤ c.lo) && (decide (0 ≤ c.un) && (decide (c.lo < c.l.length) && (decide (c.un < c.l.length) && c.l.all fun i => rightB i c.l.length)))))

/-- A place's name. -/
def labelL (c : Prg) (at_ : Int) : List UInt8 := if at_ = c.lo then lockW else if at_ = c.un then unlockW else 108 :: Lib.itoa at_

/-- Some instruction goes there. -/
def wantB (c : Prg) (k : Int) : Bool := c.l.any fun x => goesB x && decide (x.pl = k)

/-- The text of an instruction that goes to a place, up to that. -/
def headI (i : Ins) : List UInt8 := nmL i.op ++ partsL i (hsL i.op).dropLast ++ (if i.op = 21 then [32, 101, 108, 115, 101, 32] else [32])

/-- An instruction's line. -/
def insLine (c : Prg) (i : Ins) : List UInt8 := if goesB i = true then headI i ++ labelL c i.pl else textL i

/-- The labels ahead of an instruction. -/
def labsAt (c : Prg) (k : Int) : List (List UInt8) :=
  (if k = c.lo then [lockW] else []) ++ ((if k = c.un then [unlockW] else []) ++ (if wantB c k = true ∧ k ≠ c.lo ∧ k ≠ c.un then [labelL c k] else []))

/-- The lines of a program's own text, from place k on. -/
def linesFrom (c : Prg) : List Ins → Int → List (List UInt8)
  | [], _ => []
  | i :: more, k => (labsAt c k).map (fun s => s ++ [58]) ++ insLine c i :: linesFrom c more (k + 1)

/-- A program's own text. -/
def printL (c : Prg) : List UInt8 := (linesFrom c c.l 0).flatMap fun s => s ++ [10]

-- words
theorem ahead_app (c : UInt8) (a b : List (List UInt8)) (h : a ≠ []) : ahead c (a ++ b) = ahead c a ++ b := by
  cases a with
  | nil => exact absurd rfl h
  | cons x y => rfl
theorem wordsL_ne (s : List UInt8) : wordsL s ≠ [] := by
  have := wordsL_pos s
  intro h
  rw [h] at this
  simp at this
theorem wordsL_cat : ∀ (a b : List UInt8), wordsL (a ++ 32 :: b) = wordsL a ++ wordsL b
  | [], b => by simp [wordsL]
  | c :: a, b => by
    have ih := wordsL_cat a b
    show wordsL (c :: (a ++ 32 :: b)) = _
    by_cases hc : c = 32
    · rw [wordsL, if_pos hc, ih, wordsL, if_pos hc]; rfl
    · rw [wordsL, if_neg hc, ih, wordsL, if_neg hc, ahead_app _ _ _ (wordsL_ne a)]
theorem lastW_cat (a b : List UInt8) (h : Bf b) : lastW (a ++ 32 :: b) = b := by
  unfold lastW
  rw [wordsL_cat, wordsL_one b h]
  simp
theorem headW_cat (a b : List UInt8) (h : Bf b) : headW (a ++ 32 :: b) = a ++ [32] := by
  unfold headW
  rw [lastW_cat a b h]
  have e : (a ++ 32 :: b).length - b.length = (a ++ [32]).length := by simp; omega
  have e2 : a ++ 32 :: b = (a ++ [32]) ++ b := by simp
  rw [e, e2, List.take_left]

theorem name_bf {s : List UInt8} (h : nameB s = true) : Bf s := by
  unfold nameB at h
  simp only [Bool.and_eq_true] at h
  intro c hc e
  have := List.all_eq_true.1 h.2.2.2 c hc
  subst e
  revert this
  decide
theorem name_ne {s : List UInt8} (h : nameB s = true) : s ≠ [] := by
  rintro rfl
  revert h
  decide
end Go.Proofs.YteohnkilchkhkaaGreatDoor
