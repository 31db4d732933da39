/- AsmM, InstH1, TkC, RuI, TkP, AsmA, AsmI. -/
import Derived.Test.YthdgehcghklflaaGreatDoorKMem
import Derived.Test.YthdgehcghklflaaGreatDoorKInstA
import Derived.Test.YthdgehcghklflaaGreatDoorKInstP
import Derived.Test.YthdgehcghklflaaGreatDoorKInstT
import Derived.Test.YthdgehcghklflaaGreatDoorKLnA
import Derived.Deep.CutRange
import Derived.Deep.CutBlock
import Derived.Deep.RegionHeld3
import Derived.Deep.QuietTactic
import Derived.Laws.RangeAny
import Derived.Lib.OthersKept
import Derived.BigRegionIn
/- AsmL, AsmM, AsmN, AsmO, AsmP, AsmQ, AsmR, one behind the other. -/
/- Names and places of layer 7, as plain lists. No walk stands here. -/
namespace Go.Proofs.YthdgehcghklflaaGreatDoor
set_option linter.unusedVariables false

def lowB (c : UInt8) : Bool := decide (97 ≤ c.toNat) && decide (c.toNat ≤ 122)
def digB (c : UInt8) : Bool := decide (48 ≤ c.toNat) && decide (c.toNat ≤ 57)
/-- A name. -/
def nameB (s : List UInt8) : Bool := decide (1 ≤ s.length) && (decide (s.length ≤ 16) && (lowB (s.getD 0 0) && s.all fun c => lowB c || digB c))
/-- It goes to a place. -/
def goesB (i : Ins) : Bool := (decide (8 ≤ i.op) && decide (i.op ≤ 10)) || (decide (i.op = 21) && decide (0 ≤ i.pl))
/-- .. as the program asks it. -/
def placeB (i : Ins) : Bool := decide (i.op = 8 ∨ i.op = 9 ∨ i.op = 10) || (decide (i.op = 21) && decide (i.pl ≠ -1))

/-- What is asked of byte c at place n of a name. -/
def okAt (n : Nat) (c : UInt8) : Bool := lowB c || (digB c && decide (n ≠ 0))
/-- From place n on. -/
def restB : List UInt8 → Nat → Bool
  | [], _ => true
  | c :: r, n => okAt n c && restB r (n + 1)
theorem rest_all : ∀ (s : List UInt8) (n : Nat), 0 < n → restB s n = s.all fun c => lowB c || digB c
  | [], _, _ => rfl
  | c :: r, n, h => by
    have hn : decide (n ≠ 0) = true := by simpa using Nat.ne_of_gt h
    rw [restB, rest_all r (n + 1) (by omega), List.all_cons, okAt, hn, Bool.and_true]
theorem name_rest (s : List UInt8) (h0 : 1 ≤ s.length) (h1 : s.length ≤ 16) : nameB s = restB s 0 := by
  cases s with
  | nil => simp at h0
  | cons c r =>
    unfold nameB
    rw [restB, rest_all r 1 (by omega)]
    simp only [h0, h1, decide_true, Bool.true_and, List.getD_cons_zero, List.all_cons, okAt]
    cases lowB c <;> simp
end Go.Proofs.YthdgehcghklflaaGreatDoor

/- Programs as plain lists: names, lines, what is assembled of a text, and a program's own text. No walk stands here. -/
namespace Go.Proofs.YthdgehcghklflaaGreatDoor
set_option linter.unusedVariables false

theorem draftR_k (ws : List (List UInt8)) : 0 ≤ (draftR ws).k ∧ (draftR ws).k < 4294967296 := by
  have hk : 0 ≤ kOf ws.tail ∧ kOf ws.tail < 4294967296 := by unfold kOf; split <;> omega
  unfold draftR finI
  generalize kOf ws.tail = k at *
  repeat' split
  all_goals (simp only; omega)

/-- The instruction that a text is; none: it is none. -/
def prs (s : List UInt8) : Option Ins := if parseRB s = true then some (draftR (wordsL s)) else none
theorem prs_iff (s : List UInt8) (i : Ins) : prs s = some i ↔ rightB i 1073741824 = true ∧ 0 ≤ i.k ∧ i.k < 4294967296 ∧ textL i = s := by
  unfold prs
  constructor
  · intro h
    split at h
    · rename_i hp
      injection h with h
      subst h
      have hp2 := hp
      unfold parseRB at hp2
      simp only [Bool.and_eq_true, decide_eq_true_eq] at hp2
      exact ⟨hp2.2.1, (draftR_k _).1, (draftR_k _).2, hp2.2.2⟩
    · cases h
  · rintro ⟨hr, k0, k1, rfl⟩
    rw [if_pos (parseR_text i hr k0 k1), (draftR_text i hr k0 k1).2]

def lastW (s : List UInt8) : List UInt8 := (wordsL s).getLastD []
def headW (s : List UInt8) : List UInt8 := s.take (s.length - (lastW s).length)

/-- An instruction, the name of its place; none: it is none. -/
def lineL (s : List UInt8) : Option (Ins × List UInt8) :=
  match prs (headW s ++ [48]) with
  | some i => if goesB i = true ∧ nameB (lastW s) = true then some (i, lastW s)
    else match prs s with
      | some j => if goesB j = true then none else some (j, [])
      | none => none
  | none => match prs s with
    | some j => if goesB j = true then none else some (j, [])
    | none => none

/-- A label's line. -/
def lbB (s : List UInt8) : Bool := !s.isEmpty && (decide (s.getLastD 0 = 58) && nameB s.dropLast)

/-- The pieces of a text between its ends of line. -/
def piecesL : List UInt8 → List (List UInt8)
  | [] => [[]]
  | c :: r => if c = 10 then [] :: piecesL r else ahead c (piecesL r)

/-- The first turn: labels with their places, instructions with the names of their places and their lines; or a line and an error. -/
def asm1 : List (List UInt8) → Int → List (List UInt8 × Int) → List (Ins × List UInt8 × Int) → (Int × Int) ⊕ (List (List UInt8 × Int) × List (Ins × List UInt8 × Int))
  | [], _, ls, rs => .inr (ls, rs)
  | s :: more, n, ls, rs =>
    if lbB s = true then
      if (ls.any fun x => x.1 == s.dropLast) = true then .inl (n, 2) else asm1 more (n + 1) (ls ++ [(s.dropLast, (rs.length : Int))]) rs
    else match lineL s with
      | none => .inl (n, 8)
      | some (i, nm) => if 64 ≤ rs.length then .inl (n, 9) else asm1 more (n + 1) ls (rs ++ [(i, nm, n)])

/-- A label's place, less than n; -1: none. -/
def findL (ls : List (List UInt8 × Int)) (s : List UInt8) (n : Int) : Int :=
  match ls.find? fun x => x.1 == s && decide (x.2 < n) with
  | some x => x.2
  | none => -1

/-- The second turn. -/
def asm2 (ls : List (List UInt8 × Int)) (n : Int) : List (Ins × List UInt8 × Int) → (Int × Int) ⊕ List Ins
  | [] => .inr []
  | (i, nm, row) :: more =>
    if nm = [] then
      match asm2 ls n more with
      | .inl e => .inl e
      | .inr l => .inr (i :: l)
    else if findL ls nm n < 0 then .inl (row, 10)
    else match asm2 ls n more with
      | .inl e => .inl e
      | .inr l => .inr ({ i with pl := findL ls nm n } :: l)

def lockW : List UInt8 := [108, 111, 99, 107]
def unlockW : List UInt8 := [117, 110, 108, 111, 99, 107]

/-- What is assembled of a text: the program, the line, the error. -/
def asmL (text : List UInt8) : Prg × Int × Int :=
  match asm1 (piecesL text).dropLast 1 [] [] with
  | .inl (n, e) => (Prg.zero, n, e)
  | .inr (ls, rs) =>
    if (piecesL text).getLastD [] ≠ [] then (Prg.zero, ((piecesL text).length : Int), 8)
    else match asm2 ls rs.length rs with
      | .inl (n, e) => (Prg.zero, n, e)
      | .inr l => if findL ls lockW rs.length < 0 ∨ findL ls unlockW rs.length < 0 then (Prg.zero, 0, 10)
        else (⟨l, findL ls lockW rs.length, findL ls unlockW rs.length⟩, 0, 0)

/-- A place's name. -/
def labelL (c : Prg) (at_ : Int) : List UInt8 := if at_ = c.lo then lockW else if at_ = c.un then unlockW else 108 :: Lib.itoa at_

/-- Some instruction goes there. -/
def wantB (c : Prg) (k : Int) : Bool := c.l.any fun x => goesB x && decide (x.pl = k)

/-- The text of an instruction that goes to a place, up to that. -/
def headI (i : Ins) : List UInt8 := nmL i.op ++ partsL i (hsL i.op).dropLast ++ (if i.op = 21 then [32, 101, 108, 115, 101, 32] else [32])

/-- An instruction's line. -/
def insLine (c : Prg) (i : Ins) : List UInt8 := if goesB i = true then headI i ++ labelL c i.pl else textL i

/-- The labels ahead of an instruction. -/
def labsAt (c : Prg) (k : Int) : List (List UInt8) :=
  (if k = c.lo then [lockW] else []) ++ ((if k = c.un then [unlockW] else []) ++ (if wantB c k = true ∧ k ≠ c.lo ∧ k ≠ c.un then [labelL c k] else []))

/-- The lines of a program's own text, from place k on. -/
def linesFrom (c : Prg) : List Ins → Int → List (List UInt8)
  | [], _ => []
  | i :: more, k => (labsAt c k).map (fun s => s ++ [58]) ++ insLine c i :: linesFrom c more (k + 1)

/-- A program's own text. -/
def printL (c : Prg) : List UInt8 := (linesFrom c c.l 0).flatMap fun s => s ++ [10]

-- words
theorem ahead_app (c : UInt8) (a b : List (List UInt8)) (h : a ≠ []) : ahead c (a ++ b) = ahead c a ++ b := by
  cases a with
  | nil => exact absurd rfl h
  | cons x y => rfl
theorem wordsL_ne (s : List UInt8) : wordsL s ≠ [] := by
  have := wordsL_pos s
  intro h
  rw [h] at this
  simp at this
theorem wordsL_cat : ∀ (a b : List UInt8), wordsL (a ++ 32 :: b) = wordsL a ++ wordsL b
  | [], b => by simp [wordsL]
  | c :: a, b => by
    have ih := wordsL_cat a b
    show wordsL (c :: (a ++ 32 :: b)) = _
    by_cases hc : c = 32
    · rw [wordsL, if_pos hc, ih, wordsL, if_pos hc]; rfl
    · rw [wordsL, if_neg hc, ih, wordsL, if_neg hc, ahead_app _ _ _ (wordsL_ne a)]
theorem lastW_cat (a b : List UInt8) (h : Bf b) : lastW (a ++ 32 :: b) = b := by
  unfold lastW
  rw [wordsL_cat, wordsL_one b h]
  simp
theorem headW_cat (a b : List UInt8) (h : Bf b) : headW (a ++ 32 :: b) = a ++ [32] := by
  unfold headW
  rw [lastW_cat a b h]
  have e : (a ++ 32 :: b).length - b.length = (a ++ [32]).length := by simp; omega
  have e2 : a ++ 32 :: b = (a ++ [32]) ++ b := by simp
  rw [e, e2, List.take_left]

theorem name_bf {s : List UInt8} (h : nameB s = true) : Bf s := by
  unfold nameB at h
  simp only [Bool.and_eq_true] at h
  intro c hc e
  have := List.all_eq_true.1 h.2.2.2 c hc
  subst e
  revert this
  decide
end Go.Proofs.YthdgehcghklflaaGreatDoor

/- Lines: an instruction's line is that instruction, with its place's name. No walk stands here. -/
namespace Go.Proofs.YthdgehcghklflaaGreatDoor
set_option linter.unusedVariables false

-- the name of an op
theorem op_of_name (op : Int) (h : hsL op ≠ []) : opTo (nmL op) 23 = op := by
  rcases op_cases op with rfl | rfl | rfl | rfl | rfl | rfl | rfl | rfl | rfl | rfl | rfl | rfl | rfl | rfl | rfl | rfl | rfl | rfl | rfl | rfl | rfl | hn
  all_goals first | decide | exact absurd (hs_none hn).1 h
theorem right_hs {i : Ins} {p : Int} (h : rightB i p = true) : hsL i.op ≠ [] := by
  unfold rightB at h
  simp only [Bool.and_eq_true, Bool.not_eq_true', List.isEmpty_eq_false_iff] at h
  exact h.1
theorem nm_inj {i j : Ins} {p q : Int} (hi : rightB i p = true) (hj : rightB j q = true) (h : nmL i.op = nmL j.op) : i.op = j.op := by
  rw [← op_of_name i.op (right_hs hi), h, op_of_name j.op (right_hs hj)]
theorem nm_bf (op : Int) : Bf (nmL op) := by
  rcases op_cases op with rfl | rfl | rfl | rfl | rfl | rfl | rfl | rfl | rfl | rfl | rfl | rfl | rfl | rfl | rfl | rfl | rfl | rfl | rfl | rfl | rfl | hn
  all_goals first | (unfold Bf; decide) | (rw [(hs_none hn).2]; unfold Bf; simp)

/-- Right with few places: right with more. -/
theorem right_more {i : Ins} {p q : Int} (hq : p ≤ q) (h : rightB i p = true) : rightB i q = true := by
  unfold rightB at *
  simp only [Bool.and_eq_true, List.all_eq_true] at *
  refine ⟨h.1, fun c hc => ?_, h.2.2⟩
  have := h.2.1 c hc
  unfold inB endI at *
  simp only [Bool.and_eq_true, decide_eq_true_eq] at *
  refine ⟨this.1, ?_⟩
  have h2 := this.2
  generalize (c.toNat : Int) = x at *
  generalize getI i x = y at *
  repeat' split at h2
  all_goals first | (simp_all; done) | (simp_all; omega)

theorem goes_cases {i : Ins} (h : goesB i = true) : i.op = 8 ∨ i.op = 9 ∨ i.op = 10 ∨ (i.op = 21 ∧ 0 ≤ i.pl) := by
  unfold goesB at h
  simp only [Bool.or_eq_true, Bool.and_eq_true, decide_eq_true_eq] at h
  omega
/-- The place of a right instruction that goes to one. -/
theorem goes_pl {i : Ins} {p : Int} (hr : rightB i p = true) (h : goesB i = true) : 0 ≤ i.pl ∧ i.pl < p := by
  obtain ⟨op, d, s, t, u, a, k, pl⟩ := i
  unfold rightB at hr
  rcases goes_cases h with e | e | e | ⟨e, e2⟩ <;> (simp only at e; subst e; simp [hsL, inB, lowI, endI, getI] at hr; simp only at *)
  · exact hr.1.2.2
  · exact hr.1.2.2
  · exact hr.1
  · have := hr.1.2.2.2.2.2.2
    split at this <;> omega

theorem headI_pl (i : Ins) (h : goesB i = true) (p : Int) : headI { i with pl := p } = headI i := by
  obtain ⟨op, d, s, t, u, a, k, pl⟩ := i
  rcases goes_cases h with e | e | e | ⟨e, e2⟩ <;> (simp only at e; subst e; simp [headI, hsL, partsL, partL, getI])
/-- The text of an instruction that goes to a place. -/
theorem text_goes (i : Ins) (h : goesB i = true) (h0 : 0 ≤ i.pl) : textL i = headI i ++ Lib.itoa i.pl := by
  obtain ⟨op, d, s, t, u, a, k, pl⟩ := i
  rcases goes_cases h with e | e | e | ⟨e, e2⟩
  · simp only at e; subst e; simp [textL, headI, hsL, partsL, partL, getI]
  · simp only at e; subst e; simp [textL, headI, hsL, partsL, partL, getI]
  · simp only at e; subst e; simp [textL, headI, hsL, partsL, partL, getI]
  · simp only at e e2
    subst e
    have hne : pl ≠ -1 := by omega
    simp [textL, headI, hsL, partsL, partL, getI, hne]
theorem headI_end (i : Ins) : ∃ a, headI i = a ++ [32] := by
  unfold headI
  split
  · exact ⟨nmL i.op ++ partsL i (hsL i.op).dropLast ++ [32, 101, 108, 115, 101], by simp⟩
  · exact ⟨nmL i.op ++ partsL i (hsL i.op).dropLast, rfl⟩
theorem right_zero {i : Ins} {p q : Int} (hr : rightB i p = true) (h : goesB i = true) (hq : 0 < q) : rightB { i with pl := 0 } q = true := by
  obtain ⟨op, d, s, t, u, a, k, pl⟩ := i
  unfold rightB at *
  rcases goes_cases h with e | e | e | ⟨e, e2⟩ <;> (simp only at e; subst e; simp [hsL, inB, lowI, endI, getI, isZ, clr, setI] at hr ⊢)
  · refine ⟨⟨hr.1.1, hr.1.2.1, hq⟩, hr.2⟩
  · refine ⟨⟨hr.1.1, hr.1.2.1, hq⟩, hr.2⟩
  · refine ⟨hq, hr.2⟩
  · obtain ⟨⟨q1, q2, q3, q4, q5, q6⟩, q7⟩ := hr
    refine ⟨⟨q1, q2, q3, q4, q5, ?_⟩, q7⟩
    split <;> omega
theorem goes_zero {i : Ins} (h : goesB i = true) : goesB { i with pl := 0 } = true := by
  unfold goesB at *
  simp only [Bool.or_eq_true, Bool.and_eq_true, decide_eq_true_eq] at *
  omega
theorem itoa_zero : Lib.itoa 0 = [48] := by
  rw [show (0 : Int) = ((0 : Nat) : Int) from rfl, itoa_nat, Lib.decDigits, dif_pos (by decide)]
  rfl

/-- The line of an instruction that goes to a name. -/
theorem line_goes (i : Ins) {p : Int} (hr : rightB i p = true) (hp : p ≤ 1073741824) (k0 : 0 ≤ i.k) (k1 : i.k < 4294967296) (h : goesB i = true) (nm : List UInt8) (hn : nameB nm = true) :
    lineL (headI i ++ nm) = some ({ i with pl := 0 }, nm) := by
  obtain ⟨a, ha⟩ := headI_end i
  have hs : headI i ++ nm = a ++ 32 :: nm := by rw [ha]; simp
  have h1 : lastW (headI i ++ nm) = nm := by rw [hs]; exact lastW_cat a nm (name_bf hn)
  have h2 : headW (headI i ++ nm) = headI i := by rw [hs, headW_cat a nm (name_bf hn), ha]
  have h3 : prs (headI i ++ [48]) = some { i with pl := 0 } := by
    rw [prs_iff]
    refine ⟨right_zero hr h (by decide), k0, k1, ?_⟩
    rw [text_goes _ (goes_zero h) (Int.le_refl 0), headI_pl i h 0]
    show headI i ++ Lib.itoa 0 = _
    rw [itoa_zero]
  unfold lineL
  rw [h2, h3, h1]
  simp only
  rw [if_pos ⟨goes_zero h, hn⟩]

theorem last_blank : ∀ s : List UInt8, Bf s ∨ ∃ a b, Bf b ∧ s = a ++ 32 :: b
  | [] => .inl (by unfold Bf; simp)
  | c :: r => by
    rcases last_blank r with h | ⟨a, b, hb, rfl⟩
    · by_cases hc : c = 32
      · exact .inr ⟨[], r, h, by rw [hc]; rfl⟩
      · refine .inl fun x hx => ?_
        rcases List.mem_cons.1 hx with rfl | hx
        · exact hc
        · exact h x hx
    · exact .inr ⟨c :: a, b, hb, rfl⟩

/-- A text begins with its op's name, and goes on behind a blank. -/
theorem text_first {i : Ins} {p : Int} (hr : rightB i p = true) : ∃ r, textL i = nmL i.op ++ 32 :: r := by
  have hh := right_hs hr
  obtain ⟨op, d, s, t, u, a, k, pl⟩ := i
  simp only at hh
  rcases op_cases op with rfl | rfl | rfl | rfl | rfl | rfl | rfl | rfl | rfl | rfl | rfl | rfl | rfl | rfl | rfl | rfl | rfl | rfl | rfl | rfl | rfl | hn
  all_goals first
    | exact absurd (hs_none hn).1 hh
    | (unfold textL partsL; simp only [hsL]; simp [partL, getI])
theorem text_head {i : Ins} {p : Int} (hr : rightB i p = true) : (wordsL (textL i)).head? = some (nmL i.op) := by
  obtain ⟨r, h⟩ := text_first hr
  rw [h, wordsL_cat, wordsL_one _ (nm_bf _)]
  rfl
theorem text_count {i : Ins} {p : Int} (hr : rightB i p = true) (hp : p ≤ 1073741824) (k0 : 0 ≤ i.k) (k1 : i.k < 4294967296) (h : i.op = 21) : (i.pl = -1 ∧ (wordsL (textL i)).length = 6) ∨ (0 ≤ i.pl ∧ (wordsL (textL i)).length = 8) := by
  obtain ⟨hd, hs, ht, hu, ha⟩ := right_regs i _ hr
  obtain ⟨op, d, s, t, u, a, k, pl⟩ := i
  simp only at hd hs ht hu ha k0 k1 h
  subst h
  have hr2 := right_more hp hr
  have hr3 := right_21 d s t u a k pl 1073741824 hd hs ht hu ha k0 k1
  rw [hr2] at hr3
  simp [eqI] at hr3
  obtain ⟨dn, rfl⟩ : ∃ n : Nat, d = n := ⟨d.toNat, by omega⟩
  obtain ⟨sn, rfl⟩ : ∃ n : Nat, s = n := ⟨s.toNat, by omega⟩
  obtain ⟨tn, rfl⟩ : ∃ n : Nat, t = n := ⟨t.toNat, by omega⟩
  obtain ⟨un, rfl⟩ : ∃ n : Nat, u = n := ⟨u.toNat, by omega⟩
  obtain ⟨an, rfl⟩ : ∃ n : Nat, a = n := ⟨a.toNat, by omega⟩
  obtain ⟨kn, rfl⟩ : ∃ n : Nat, k = n := ⟨k.toNat, by omega⟩
  obtain rfl : un = 0 := by omega
  by_cases hm : pl = -1
  · subst hm
    refine .inl ⟨rfl, ?_⟩
    by_cases hk : kn = 0
    · subst hk
      exact congrArg List.length (words_21_0m dn sn tn an 0)
    · obtain rfl : kn = 1 := by omega
      exact congrArg List.length (words_21_1m dn sn tn an 0)
  · obtain ⟨pn, rfl⟩ : ∃ n : Nat, pl = n := ⟨pl.toNat, by omega⟩
    refine .inr ⟨by simp, ?_⟩
    by_cases hk : kn = 0
    · subst hk
      exact congrArg List.length (words_21_0p dn sn tn an pn)
    · obtain rfl : kn = 1 := by omega
      exact congrArg List.length (words_21_1p dn sn tn an pn)

/-- The line of an instruction that goes nowhere. -/
theorem line_stay (i : Ins) {p : Int} (hr : rightB i p = true) (hp : p ≤ 1073741824) (k0 : 0 ≤ i.k) (k1 : i.k < 4294967296) (h : goesB i = false) : lineL (textL i) = some (i, []) := by
  have hr2 := right_more hp hr
  have h0 : prs (textL i) = some i := (prs_iff _ _).2 ⟨hr2, k0, k1, rfl⟩
  unfold lineL
  cases hj : prs (headW (textL i) ++ [48]) with
  | none => simp only [h0, h]; rfl
  | some j =>
    simp only
    rw [if_neg, h0]
    · simp only [h]; rfl
    · rintro ⟨hg, -⟩
      obtain ⟨jr, j0, j1, jt⟩ := (prs_iff _ _).1 hj
      rcases last_blank (textL i) with hb | ⟨a, b, hb, hs⟩
      · obtain ⟨r, hr3⟩ := text_first hr
        rw [hr3] at hb
        exact hb 32 (by simp) rfl
      · rw [hs, headW_cat a b hb] at jt
        have jt2 : textL j = a ++ 32 :: [48] := by rw [jt]; simp
        have w1 : wordsL (textL i) = wordsL a ++ [b] := by rw [hs, wordsL_cat, wordsL_one b hb]
        have w2 : wordsL (textL j) = wordsL a ++ [[48]] := by rw [jt2, wordsL_cat, wordsL_one [48] (by simp)]
        have e1 := text_head hr
        have e2 := text_head jr
        rw [w1] at e1
        rw [w2] at e2
        have hop : i.op = j.op := by
          refine nm_inj hr jr ?_
          cases hw : wordsL a with
          | nil => exact absurd hw (wordsL_ne a)
          | cons x y =>
            rw [hw] at e1 e2
            simp at e1 e2
            rw [← e1, ← e2]
        rcases goes_cases hg with e | e | e | ⟨e, e3⟩
        · unfold goesB at h; rw [hop, e] at h; revert h; simp
        · unfold goesB at h; rw [hop, e] at h; revert h; simp
        · unfold goesB at h; rw [hop, e] at h; revert h; simp
        · have c1 := text_count hr hp k0 k1 (hop.trans e)
          have c2 := text_count jr (Int.le_refl _) j0 j1 e
          rw [w1] at c1
          rw [w2] at c2
          simp only [List.length_append, List.length_cons, List.length_nil] at c1 c2
          have : ¬ 0 ≤ i.pl := by
            unfold goesB at h
            rw [hop, e] at h
            simp at h
            omega
          omega

/-- A line of an instruction is no label's. -/
theorem lb_no {s a b : List UInt8} (h : s = a ++ 32 :: b) (hb : b ≠ []) : lbB s = false := by
  rw [Bool.eq_false_iff]
  intro hl
  unfold lbB at hl
  simp only [Bool.and_eq_true] at hl
  have hn := name_bf hl.2.2
  refine hn 32 ?_ rfl
  rw [h, List.dropLast_append_of_ne_nil (by simp)]
  cases b with
  | nil => exact absurd rfl hb
  | cons x y => simp
theorem lb_yes {s : List UInt8} (h : nameB s = true) : lbB (s ++ [58]) = true := by
  unfold lbB
  simp [h]
end Go.Proofs.YthdgehcghklflaaGreatDoor

/- What is assembled of a program's own text is the program. No walk stands here. -/
namespace Go.Proofs.YthdgehcghklflaaGreatDoor
set_option linter.unusedVariables false

/-- A line, as what it is: a label, or an instruction with the name of its place. -/
inductive Tok where
  | lab (nm : List UInt8)
  | ins (i : Ins) (nm s : List UInt8)
def Tok.text : Tok → List UInt8
  | .lab nm => nm ++ [58]
  | .ins _ _ s => s
def Tok.Ok : Tok → Prop
  | .lab nm => nameB nm = true
  | .ins i nm s => lbB s = false ∧ lineL s = some (i, nm)
def labsT : List Tok → Int → List (List UInt8 × Int)
  | [], _ => []
  | .lab nm :: m, k => (nm, k) :: labsT m k
  | .ins _ _ _ :: m, k => labsT m (k + 1)
def rowsT : List Tok → Int → List (Ins × List UInt8 × Int)
  | [], _ => []
  | .lab _ :: m, n => rowsT m (n + 1)
  | .ins i nm _ :: m, n => (i, nm, n) :: rowsT m (n + 1)
def namesT : List Tok → List (List UInt8)
  | [] => []
  | .lab nm :: m => nm :: namesT m
  | .ins _ _ _ :: m => namesT m

theorem names_labs : ∀ (toks : List Tok) (k : Int), (labsT toks k).map (·.1) = namesT toks
  | [], _ => rfl
  | .lab nm :: m, k => by simp [labsT, namesT, names_labs m k]
  | .ins _ _ _ :: m, k => by simp [labsT, namesT, names_labs m (k + 1)]

theorem asm1_toks : ∀ (toks : List Tok) (n : Int) (ls : List (List UInt8 × Int)) (rs : List (Ins × List UInt8 × Int)), (∀ t ∈ toks, t.Ok) → (ls.map (·.1) ++ namesT toks).Nodup → rs.length + (rowsT toks n).length ≤ 64 →
    asm1 (toks.map Tok.text) n ls rs = .inr (ls ++ labsT toks rs.length, rs ++ rowsT toks n)
  | [], n, ls, rs, _, _, _ => by simp [asm1, labsT, rowsT]
  | .lab nm :: m, n, ls, rs, hok, hnd, hc => by
    have h1 : nameB nm = true := hok _ List.mem_cons_self
    have hany : (ls.any fun x => x.1 == nm) = false := by
      rw [Bool.eq_false_iff]
      intro h
      obtain ⟨x, hx, he⟩ := List.any_eq_true.1 h
      have he2 : x.1 = nm := by simpa using he
      have := (List.nodup_append.1 hnd).2.2 x.1 (List.mem_map.2 ⟨x, hx, rfl⟩) nm (by simp [namesT])
      exact this he2
    have ih := asm1_toks m (n + 1) (ls ++ [(nm, (rs.length : Int))]) rs (fun t ht => hok t (List.mem_cons_of_mem _ ht)) (by simpa [namesT] using hnd) (by simpa [rowsT] using hc)
    simp only [List.map_cons, Tok.text, asm1, lb_yes h1, if_pos, List.dropLast_concat, hany]
    rw [if_neg (by decide), ih]
    simp [labsT, rowsT]
  | .ins i nm s :: m, n, ls, rs, hok, hnd, hc => by
    obtain ⟨h1, h2⟩ : lbB s = false ∧ lineL s = some (i, nm) := hok _ List.mem_cons_self
    have hc2 : rs.length + ((rowsT m (n + 1)).length + 1) ≤ 64 := by simpa [rowsT] using hc
    have ih := asm1_toks m (n + 1) ls (rs ++ [(i, nm, n)]) (fun t ht => hok t (List.mem_cons_of_mem _ ht)) (by simpa [namesT] using hnd) (by simp; omega)
    simp only [List.map_cons, Tok.text, asm1, h1, h2]
    rw [if_neg (by decide), if_neg (by omega), ih]
    simp [labsT, rowsT]

theorem find_mem : ∀ (ls : List (List UInt8 × Int)) (s : List UInt8) (p n : Int), (ls.map (·.1)).Nodup → (s, p) ∈ ls → p < n → findL ls s n = p
  | [], s, p, n, _, h, _ => by simp at h
  | (x, q) :: m, s, p, n, hnd, h, hp => by
    unfold findL
    by_cases e : (s, p) = (x, q)
    · injection e with e1 e2
      subst e1 e2
      simp [hp]
    · have hm : (s, p) ∈ m := by
        rcases List.mem_cons.1 h with h | h
        · exact absurd h e
        · exact h
      have hne : x ≠ s := by
        rintro rfl
        have h2 : x ∉ m.map (·.1) := (List.nodup_cons.1 hnd).1
        exact h2 (List.mem_map.2 ⟨(x, p), hm, rfl⟩)
      have ih := find_mem m s p n (List.nodup_cons.1 hnd).2 hm hp
      unfold findL at ih
      rw [List.find?_cons_of_neg (by simp [hne])]
      exact ih

theorem asm2_all (ls : List (List UInt8 × Int)) (n : Int) : ∀ (rs : List (Ins × List UInt8 × Int)), (∀ r ∈ rs, r.2.1 = [] ∨ 0 ≤ findL ls r.2.1 n) →
    asm2 ls n rs = .inr (rs.map fun r => if r.2.1 = [] then r.1 else { r.1 with pl := findL ls r.2.1 n })
  | [], _ => rfl
  | (i, nm, row) :: m, h => by
    have ih := asm2_all ls n m fun r hr => h r (List.mem_cons_of_mem _ hr)
    have h1 := h _ List.mem_cons_self
    simp only at h1
    unfold asm2
    by_cases e : nm = []
    · rw [if_pos e, ih]
      simp [e]
    · rw [if_neg e, if_neg (by rcases h1 with h1 | h1; exact absurd h1 e; omega), ih]
      simp [e]

-- lines
theorem piecesL_ne : ∀ s : List UInt8, piecesL s ≠ []
  | [] => by simp [piecesL]
  | c :: r => by
    unfold piecesL
    split
    · simp
    · cases h : piecesL r with
      | nil => simp [ahead]
      | cons a b => simp [ahead]
theorem pieces_more : ∀ (t r : List UInt8), Nl t → piecesL (t ++ 10 :: r) = t :: piecesL r
  | [], r, _ => by simp [piecesL]
  | c :: t, r, h => by
    have ih := pieces_more t r fun d hd => h d (List.mem_cons_of_mem _ hd)
    show piecesL (c :: (t ++ 10 :: r)) = _
    rw [piecesL, if_neg (h c List.mem_cons_self), ih]
    rfl
theorem pieces_lines : ∀ (l : List (List UInt8)), (∀ s ∈ l, Nl s) → piecesL (l.flatMap fun s => s ++ [10]) = l ++ [[]]
  | [], _ => rfl
  | s :: m, h => by
    have ih := pieces_lines m fun x hx => h x (List.mem_cons_of_mem _ hx)
    rw [List.flatMap_cons, List.append_assoc]
    show piecesL (s ++ 10 :: (m.flatMap fun s => s ++ [10])) = _
    rw [pieces_more s _ (h s List.mem_cons_self), ih]
    rfl

/-- What the rows of a program are. -/
def rowI (c : Prg) (i : Ins) : Ins × List UInt8 := if goesB i = true then ({ i with pl := 0 }, labelL c i.pl) else (i, [])

def finQ (ls : List (List UInt8 × Int)) (n : Int) (q : Ins × List UInt8) : Ins := if q.2 = [] then q.1 else { q.1 with pl := findL ls q.2 n }

theorem label_ne (c : Prg) (k : Int) : labelL c k ≠ [] := by
  unfold labelL lockW unlockW
  split
  · simp
  · split <;> simp
theorem label_at (c : Prg) (i : Ins) (hi : i ∈ c.l) (hg : goesB i = true) : labelL c i.pl ∈ labsAt c i.pl := by
  by_cases h1 : i.pl = c.lo
  · rw [show labelL c i.pl = lockW by unfold labelL; rw [if_pos h1]]
    unfold labsAt
    simp [h1]
  · by_cases h2 : i.pl = c.un
    · rw [show labelL c i.pl = unlockW by unfold labelL; rw [if_neg h1, if_pos h2]]
      unfold labsAt
      refine List.mem_append.2 (.inr (List.mem_append.2 (.inl ?_)))
      rw [if_pos h2]
      exact List.mem_cons_self
    · have hw : wantB c i.pl = true := by
        unfold wantB
        rw [List.any_eq_true]
        exact ⟨i, hi, by simp [hg]⟩
      unfold labsAt
      simp [h1, h2, hw]

/-- Lines that hold a program's labels, and its instructions in order, and labels besides: what is assembled of them is the program. -/
theorem asm_prog (c : Prg) (hc : prgB c = true) (toks : List Tok) (hok : ∀ t ∈ toks, t.Ok) (hnd : (namesT toks).Nodup) (hnl : ∀ t ∈ toks, Nl t.text)
    (hrows : (rowsT toks 1).map (fun r => (r.1, r.2.1)) = c.l.map (rowI c)) (hl : ∀ (j : Int) (x : List UInt8), 0 ≤ j → j < c.l.length → x ∈ labsAt c j → (x, j) ∈ labsT toks 0) :
    asmL ((toks.map Tok.text).flatMap fun s => s ++ [10]) = (c, 0, 0) := by
  unfold prgB at hc
  simp only [Bool.and_eq_true, decide_eq_true_eq, List.all_eq_true] at hc
  obtain ⟨c1, c2, c3, c4, c5, c6, c7⟩ := hc
  have hlen : (rowsT toks 1).length = c.l.length := by
    have := congrArg List.length hrows
    simpa using this
  have hp := pieces_lines (toks.map Tok.text) (by
    intro s hs
    obtain ⟨t, ht, rfl⟩ := List.mem_map.1 hs
    exact hnl t ht)
  have h1 := asm1_toks toks 1 [] [] hok (by simpa using hnd) (by simpa [hlen] using c2)
  simp only [List.nil_append, List.length_nil, Int.ofNat_zero] at h1
  have hfnd : ∀ (j : Int) (x : List UInt8), 0 ≤ j → j < c.l.length → x ∈ labsAt c j → findL (labsT toks 0) x c.l.length = j := fun j x j0 j1 hx =>
    find_mem _ _ _ _ (by rw [names_labs]; exact hnd) (hl j x j0 j1 hx) j1
  have hlo : findL (labsT toks 0) lockW c.l.length = c.lo := hfnd c.lo lockW c3 c5 (by unfold labsAt; simp)
  have hun : findL (labsT toks 0) unlockW c.l.length = c.un := hfnd c.un unlockW c4 c6 (by unfold labsAt; simp)
  have hgo : ∀ i ∈ c.l, goesB i = true → findL (labsT toks 0) (labelL c i.pl) c.l.length = i.pl := fun i hi hg =>
    hfnd i.pl _ (goes_pl (c7 i hi) hg).1 (goes_pl (c7 i hi) hg).2 (label_at c i hi hg)
  have h2 : asm2 (labsT toks 0) c.l.length (rowsT toks 1) = .inr c.l := by
    have e : ∀ r ∈ rowsT toks 1, ∃ i ∈ c.l, (r.1, r.2.1) = rowI c i := fun r hr => by
      have : (r.1, r.2.1) ∈ c.l.map (rowI c) := by rw [← hrows]; exact List.mem_map.2 ⟨r, hr, rfl⟩
      obtain ⟨i, hi, he⟩ := List.mem_map.1 this
      exact ⟨i, hi, he.symm⟩
    rw [asm2_all]
    · congr 1
      have e2 : (rowsT toks 1).map (fun r => if r.2.1 = [] then r.1 else { r.1 with pl := findL (labsT toks 0) r.2.1 c.l.length }) =
          ((rowsT toks 1).map fun r => (r.1, r.2.1)).map (finQ (labsT toks 0) c.l.length) := by
        rw [List.map_map]; rfl
      rw [e2, hrows, List.map_map]
      conv => rhs; rw [← List.map_id c.l]
      refine List.map_congr_left fun i hi => ?_
      show finQ (labsT toks 0) c.l.length (rowI c i) = i
      by_cases hg : goesB i = true
      · rw [show rowI c i = ({ i with pl := 0 }, labelL c i.pl) from if_pos hg]
        unfold finQ
        simp only
        rw [if_neg (label_ne c _), hgo i hi hg]
      · rw [show rowI c i = (i, []) from if_neg hg]
        rfl
    · intro r hr
      obtain ⟨i, hi, he⟩ := e r hr
      unfold rowI at he
      by_cases hg : goesB i = true
      · rw [if_pos hg] at he
        injection he with e3 e4
        right
        rw [e4, hgo i hi hg]
        exact (goes_pl (c7 i hi) hg).1
      · rw [if_neg hg] at he
        injection he with e3 e4
        exact .inl e4
  unfold asmL
  rw [hp, List.dropLast_concat, h1]
  simp only [List.getLastD_concat, hlen, h2, hlo, hun]
  rw [if_neg (by simp), if_neg (by omega)]
end Go.Proofs.YthdgehcghklflaaGreatDoor

/- The lines of a program's own text; labels that nothing goes to, ahead of any of them. No walk stands here. -/
namespace Go.Proofs.YthdgehcghklflaaGreatDoor
set_option linter.unusedVariables false

theorem itoa_nn {n : Int} (h : 0 ≤ n) : Lib.itoa n = Lib.decDigits n.toNat := by unfold Lib.itoa; rw [if_neg (by omega)]
theorem itoa_inj {m n : Int} (hm : 0 ≤ m) (hn : 0 ≤ n) (h : Lib.itoa m = Lib.itoa n) : m = n := by
  rw [itoa_nn hm, itoa_nn hn] at h
  have h1 := numFrom_dec m.toNat
  rw [h, numFrom_dec n.toNat] at h1
  injection h1 with h1
  omega
theorem itoa_digit {n : Int} (h : 0 ≤ n) : ∀ c ∈ Lib.itoa n, digB c = true := by
  rw [itoa_nn h]
  intro c hc
  have := dec_digit n.toNat c hc
  unfold digB
  simp [this]
theorem itoa_nl (n : Int) : Nl (Lib.itoa n) := by
  have key : ∀ k : Nat, Nl (Lib.decDigits k) := fun k c hc e => by
    have := dec_digit k c hc
    rw [e] at this
    revert this
    decide
  unfold Lib.itoa
  split
  · intro c hc
    rcases List.mem_cons.1 hc with rfl | hc
    · decide
    · exact key _ c hc
  · exact key _

theorem name_place {n : Int} (h0 : 0 ≤ n) (h1 : n < 64) : nameB (108 :: Lib.itoa n) = true := by
  have hd := itoa_digit h0
  have hl : (Lib.itoa n).length ≤ 2 := by
    rw [itoa_nn h0]
    exact dec_len10 1 n.toNat (by omega)
  unfold nameB
  simp only [Bool.and_eq_true, decide_eq_true_eq, List.all_eq_true, List.length_cons]
  refine ⟨by omega, by omega, (show lowB 108 = true by decide), fun c hc => ?_⟩
  rcases List.mem_cons.1 hc with rfl | hc
  · decide
  · simp [hd c hc]
theorem name_label (c : Prg) {k : Int} (h0 : 0 ≤ k) (h1 : k < 64) : nameB (labelL c k) = true := by
  unfold labelL
  split
  · decide
  · split
    · decide
    · exact name_place h0 h1
theorem labs_cases {c : Prg} {k : Int} {x : List UInt8} (h : x ∈ labsAt c k) : (x = lockW ∧ k = c.lo) ∨ (x = unlockW ∧ k = c.un) ∨ (x = 108 :: Lib.itoa k ∧ k ≠ c.lo ∧ k ≠ c.un) := by
  unfold labsAt at h
  rcases List.mem_append.1 h with h | h
  · split at h
    · exact .inl ⟨by simpa using h, by assumption⟩
    · simp at h
  · rcases List.mem_append.1 h with h | h
    · split at h
      · exact .inr (.inl ⟨by simpa using h, by assumption⟩)
      · simp at h
    · split at h
      · rename_i hw
        refine .inr (.inr ⟨?_, hw.2⟩)
        have : x = labelL c k := by simpa using h
        rw [this]
        unfold labelL
        rw [if_neg hw.2.1, if_neg hw.2.2]
      · simp at h
theorem labs_name {c : Prg} {k : Int} {x : List UInt8} (h : x ∈ labsAt c k) (h0 : 0 ≤ k) (h1 : k < 64) : nameB x = true := by
  rcases labs_cases h with ⟨rfl, -⟩ | ⟨rfl, -⟩ | ⟨rfl, -⟩
  · decide
  · decide
  · exact name_place h0 h1
theorem lock_no {n : Int} (h : 0 ≤ n) : lockW ≠ 108 :: Lib.itoa n := by
  intro e
  unfold lockW at e
  injection e with _ e
  have := itoa_digit h 111 (by rw [← e]; simp)
  revert this
  decide
theorem unlock_no (n : Int) : unlockW ≠ 108 :: Lib.itoa n := by
  intro e
  unfold unlockW at e
  injection e with e _
  revert e
  decide
theorem labs_place {c : Prg} {j k : Int} {x : List UInt8} (j0 : 0 ≤ j) (k0 : 0 ≤ k) (hj : x ∈ labsAt c j) (hk : x ∈ labsAt c k) : j = k := by
  rcases labs_cases hj with ⟨e1, h1⟩ | ⟨e1, h1⟩ | ⟨e1, h1⟩ <;> rcases labs_cases hk with ⟨e2, h2⟩ | ⟨e2, h2⟩ | ⟨e2, h2⟩
  · omega
  · rw [e1] at e2; exact absurd e2 (by decide)
  · rw [e1] at e2; exact absurd e2 (lock_no k0)
  · rw [e1] at e2; exact absurd e2 (by decide)
  · omega
  · rw [e1] at e2; exact absurd e2 (unlock_no k)
  · rw [e2] at e1; exact absurd e1 (lock_no j0)
  · rw [e2] at e1; exact absurd e1 (unlock_no j)
  · rw [e1] at e2
    injection e2 with _ e2
    exact itoa_inj j0 k0 e2
theorem labs_nodup (c : Prg) (k : Int) : (labsAt c k).Nodup := by
  have hne : lockW ≠ unlockW := by decide
  unfold labsAt
  by_cases h1 : k = c.lo
  · by_cases h2 : k = c.un
    · rw [if_pos h1, if_pos h2, if_neg (fun h => h.2.1 h1)]; simp [hne]
    · rw [if_pos h1, if_neg h2, if_neg (fun h => h.2.1 h1)]; simp
  · by_cases h2 : k = c.un
    · rw [if_neg h1, if_pos h2, if_neg (fun h => h.2.2 h2)]; simp
    · rw [if_neg h1, if_neg h2]; split <;> simp
/-- The lines of a program, as what they are. -/
def toksFrom (c : Prg) : List Ins → Int → List Tok
  | [], _ => []
  | i :: more, k => (labsAt c k).map Tok.lab ++ Tok.ins (rowI c i).1 (rowI c i).2 (insLine c i) :: toksFrom c more (k + 1)
theorem toks_text (c : Prg) : ∀ (l : List Ins) (k : Int), (toksFrom c l k).map Tok.text = linesFrom c l k
  | [], _ => rfl
  | i :: m, k => by
    simp only [toksFrom, linesFrom, List.map_append, List.map_map, List.map_cons, toks_text c m (k + 1)]
    rfl

theorem names_app : ∀ (a b : List Tok), namesT (a ++ b) = namesT a ++ namesT b
  | [], b => rfl
  | .lab nm :: a, b => by simp [namesT, names_app a b]
  | .ins _ _ _ :: a, b => by simp [namesT, names_app a b]
theorem names_lab : ∀ l : List (List UInt8), namesT (l.map Tok.lab) = l
  | [] => rfl
  | x :: l => by simp [namesT, names_lab l]
theorem names_toks (c : Prg) (i : Ins) (m : List Ins) (k : Int) : namesT (toksFrom c (i :: m) k) = labsAt c k ++ namesT (toksFrom c m (k + 1)) := by
  rw [toksFrom, names_app, names_lab]
  rfl
theorem names_mem (c : Prg) : ∀ (l : List Ins) (k : Int) (x : List UInt8), x ∈ namesT (toksFrom c l k) → ∃ j, k ≤ j ∧ j < k + l.length ∧ x ∈ labsAt c j
  | [], k, x, h => by simp [toksFrom, namesT] at h
  | i :: m, k, x, h => by
    rw [names_toks] at h
    rcases List.mem_append.1 h with h | h
    · exact ⟨k, Int.le_refl _, by simp; omega, h⟩
    · obtain ⟨j, h1, h2, h3⟩ := names_mem c m (k + 1) x h
      exact ⟨j, by omega, by simp; omega, h3⟩
theorem names_nodup (c : Prg) : ∀ (l : List Ins) (k : Int), 0 ≤ k → (namesT (toksFrom c l k)).Nodup
  | [], k, _ => by simp [toksFrom, namesT]
  | i :: m, k, h => by
    rw [names_toks, List.nodup_append]
    refine ⟨labs_nodup c k, names_nodup c m (k + 1) (by omega), fun x hx y hy e => ?_⟩
    subst e
    obtain ⟨j, h1, h2, h3⟩ := names_mem c m (k + 1) x hy
    have := labs_place h (by omega) hx h3
    omega

theorem labsT_app : ∀ (a b : List Tok) (k : Int), labsT (a ++ b) k = labsT a k ++ labsT b (k + (rowsT a 0).length)
  | [], b, k => by simp [labsT, rowsT]
  | .lab nm :: a, b, k => by
    have : (rowsT a (0 + 1)).length = (rowsT a 0).length := rows_len a _ _
    simp only [List.cons_append, labsT, rowsT, labsT_app a b k, this]
  | .ins _ _ _ :: a, b, k => by
    have : (rowsT a (0 + 1)).length = (rowsT a 0).length := rows_len a _ _
    simp only [List.cons_append, labsT, rowsT, labsT_app a b (k + 1), List.length_cons, this]
    congr 2
    simp
    omega
where
  rows_len : ∀ (a : List Tok) (m n : Int), (rowsT a m).length = (rowsT a n).length
    | [], _, _ => rfl
    | .lab _ :: a, m, n => by simp only [rowsT]; exact rows_len a _ _
    | .ins _ _ _ :: a, m, n => by simp only [rowsT, List.length_cons]; rw [rows_len a _ _]
theorem rows_lab (l : List (List UInt8)) (n : Int) : rowsT (l.map Tok.lab) n = [] := by
  induction l generalizing n with
  | nil => rfl
  | cons x l ih => simp only [List.map_cons, rowsT]; exact ih _
theorem labsT_lab (l : List (List UInt8)) (k : Int) : labsT (l.map Tok.lab) k = l.map fun x => (x, k) := by
  induction l with
  | nil => rfl
  | cons x l ih => simp only [List.map_cons, labsT, ih]
theorem labsT_toks (c : Prg) (i : Ins) (m : List Ins) (k q : Int) : labsT (toksFrom c (i :: m) k) q = (labsAt c k).map (fun x => (x, q)) ++ labsT (toksFrom c m (k + 1)) (q + 1) := by
  rw [toksFrom, labsT_app, rows_lab, labsT_lab]
  simp [labsT]
theorem labs_mem (c : Prg) : ∀ (l : List Ins) (k j : Int) (x : List UInt8), k ≤ j → j < k + l.length → x ∈ labsAt c j → (x, j) ∈ labsT (toksFrom c l k) k
  | [], k, j, x, h1, h2, _ => by simp at h2; omega
  | i :: m, k, j, x, h1, h2, h => by
    rw [labsT_toks]
    by_cases e : j = k
    · subst e
      exact List.mem_append.2 (.inl (List.mem_map.2 ⟨x, h, rfl⟩))
    · exact List.mem_append.2 (.inr (labs_mem c m (k + 1) j x (by omega) (by simp at h2; omega) h))
theorem rowsT_app : ∀ (a b : List Tok) (n : Int), rowsT (a ++ b) n = rowsT a n ++ rowsT b (n + a.length)
  | [], b, n => by simp [rowsT]
  | .lab nm :: a, b, n => by
    simp only [List.cons_append, rowsT, rowsT_app a b (n + 1), List.length_cons]
    congr 2
    simp
    omega
  | .ins _ _ _ :: a, b, n => by
    simp only [List.cons_append, rowsT, rowsT_app a b (n + 1), List.length_cons]
    congr 3
    simp
    omega
theorem rows_toks (c : Prg) : ∀ (l : List Ins) (k n : Int), (rowsT (toksFrom c l k) n).map (fun r => (r.1, r.2.1)) = l.map (rowI c)
  | [], _, _ => rfl
  | i :: m, k, n => by
    rw [toksFrom, rowsT_app, rows_lab]
    simp [rowsT, rows_toks c m]

theorem nm_nl (op : Int) : Nl (nmL op) := by
  rcases op_cases op with rfl | rfl | rfl | rfl | rfl | rfl | rfl | rfl | rfl | rfl | rfl | rfl | rfl | rfl | rfl | rfl | rfl | rfl | rfl | rfl | rfl | hn
  all_goals first | (unfold Nl; decide) | (rw [(hs_none hn).2]; unfold Nl; simp)
theorem part_nl (i : Ins) (x : Int) : Nl (partL i x) := by
  have key : ∀ (a : List UInt8) (n : Int), (∀ y ∈ a, y ≠ 10) → Nl (a ++ Lib.itoa n) := fun a n ha => Nl.app ha (itoa_nl n)
  have k1 : ∀ n : Int, Nl (32 :: Lib.itoa n) := fun n => key [32] n (by decide)
  unfold partL
  repeat' split
  all_goals first
    | exact k1 _
    | exact key _ _ (by decide)
    | (unfold Nl; decide)
theorem parts_nl (i : Ins) : ∀ l : List UInt8, Nl (partsL i l)
  | [] => by unfold Nl partsL; simp
  | x :: l => by
    have : partsL i (x :: l) = partL i x.toNat ++ partsL i l := by simp [partsL]
    rw [this]
    exact Nl.app (part_nl i _) (parts_nl i l)
theorem text_nl (i : Ins) : Nl (textL i) := Nl.app (nm_nl _) (parts_nl i _)
theorem head_nl (i : Ins) : Nl (headI i) := by
  unfold headI
  refine Nl.app (Nl.app (nm_nl _) (parts_nl i _)) ?_
  split <;> (unfold Nl; decide)
theorem name_nl {s : List UInt8} (h : nameB s = true) : Nl s := by
  unfold nameB at h
  simp only [Bool.and_eq_true] at h
  intro c hc e
  have := List.all_eq_true.1 h.2.2.2 c hc
  subst e
  revert this
  decide

theorem itoa_ne (n : Int) : Lib.itoa n ≠ [] := by
  unfold Lib.itoa
  split
  · simp
  · obtain ⟨c, r, h, -⟩ := dec_cons n.toNat
    rw [h]
    simp
theorem text_rest {i : Ins} {p : Int} (hr : rightB i p = true) : ∃ r, textL i = nmL i.op ++ 32 :: r ∧ r ≠ [] := by
  have hh := right_hs hr
  have hi := itoa_ne
  obtain ⟨op, d, s, t, u, a, k, pl⟩ := i
  simp only at hh
  rcases op_cases op with rfl | rfl | rfl | rfl | rfl | rfl | rfl | rfl | rfl | rfl | rfl | rfl | rfl | rfl | rfl | rfl | rfl | rfl | rfl | rfl | rfl | hn
  all_goals first
    | exact absurd (hs_none hn).1 hh
    | (unfold textL partsL; simp only [hsL]; simp [partL, getI, hi])

theorem row_ok (c : Prg) (i : Ins) (hr : rightB i c.l.length = true) (hc : c.l.length ≤ 64) (k0 : 0 ≤ i.k) (k1 : i.k < 4294967296) : (Tok.ins (rowI c i).1 (rowI c i).2 (insLine c i)).Ok ∧ Nl (insLine c i) := by
  unfold Tok.Ok insLine
  simp only
  by_cases hg : goesB i = true
  · have hp := goes_pl hr hg
    have hn := name_label c hp.1 (by omega : i.pl < 64)
    rw [if_pos hg, show rowI c i = ({ i with pl := 0 }, labelL c i.pl) from if_pos hg]
    obtain ⟨a, ha⟩ := headI_end i
    exact ⟨⟨lb_no (a := a) (b := labelL c i.pl) (by rw [ha]; simp) (label_ne c _), line_goes i hr (by omega) k0 k1 hg _ hn⟩, Nl.app (head_nl i) (name_nl hn)⟩
  · rw [if_neg hg, show rowI c i = (i, []) from if_neg hg]
    obtain ⟨r, h1, h2⟩ := text_rest hr
    exact ⟨⟨lb_no h1 h2, line_stay i hr (by omega) k0 k1 (by simpa using hg)⟩, text_nl i⟩
theorem toks_ok (c : Prg) (hc : c.l.length ≤ 64) : ∀ (l : List Ins) (k : Int), 0 ≤ k → k + l.length ≤ 64 → (∀ i ∈ l, rightB i c.l.length = true ∧ 0 ≤ i.k ∧ i.k < 4294967296) → ∀ t ∈ toksFrom c l k, t.Ok ∧ Nl t.text
  | [], k, _, _, _, t, ht => by simp [toksFrom] at ht
  | i :: m, k, h0, h1, h, t, ht => by
    rw [toksFrom] at ht
    simp only [List.length_cons] at h1
    rcases List.mem_append.1 ht with ht | ht
    · obtain ⟨x, hx, rfl⟩ := List.mem_map.1 ht
      have hn := labs_name hx h0 (by omega)
      exact ⟨hn, Nl.app (name_nl hn) (by unfold Nl; decide)⟩
    · rcases List.mem_cons.1 ht with rfl | ht
      · obtain ⟨a, b, d⟩ := h i List.mem_cons_self
        exact row_ok c i a hc b d
      · exact toks_ok c hc m (k + 1) (by omega) (by omega) (fun i hi => h i (List.mem_cons_of_mem _ hi)) t ht

theorem prg_facts {c : Prg} (h : prgB c = true) : c.l.length ≤ 64 ∧ ∀ i ∈ c.l, rightB i c.l.length = true := by
  unfold prgB at h
  simp only [Bool.and_eq_true, decide_eq_true_eq, List.all_eq_true] at h
  exact ⟨h.2.1, h.2.2.2.2.2.2⟩

/-- What is assembled of a program's own text is the program. -/
theorem asm_print (c : Prg) (hc : prgB c = true) (hk : ∀ i ∈ c.l, 0 ≤ i.k ∧ i.k < 4294967296) : asmL (printL c) = (c, 0, 0) := by
  obtain ⟨h1, h2⟩ := prg_facts hc
  have hok := toks_ok c h1 c.l 0 (by omega) (by omega) fun i hi => ⟨h2 i hi, hk i hi⟩
  unfold printL
  rw [← toks_text]
  exact asm_prog c hc _ (fun t ht => (hok t ht).1) (names_nodup c _ _ (by omega)) (fun t ht => (hok t ht).2) (rows_toks c _ _ _)
    fun j x j0 j1 hx => labs_mem c c.l 0 j x j0 (by omega) hx
end Go.Proofs.YthdgehcghklflaaGreatDoor

/- Labels besides change nothing; what is assembled is right; one instruction too many is told. No walk stands here. -/
namespace Go.Proofs.YthdgehcghklflaaGreatDoor
set_option linter.unusedVariables false

theorem findA_lt {ls : List (List UInt8 × Int)} {s : List UInt8} {n : Int} (h : 0 ≤ findL ls s n) : findL ls s n < n := by
  unfold findL at *
  split at h
  · rename_i x hx
    have := List.find?_some hx
    simp only [Bool.and_eq_true, decide_eq_true_eq] at this
    exact this.2
  · omega
end Go.Proofs.YthdgehcghklflaaGreatDoor

/- What is assembled, line by line; what is printed, instruction by instruction: in the steps of a loop. No walk stands here. -/
namespace Go.Proofs.YthdgehcghklflaaGreatDoor
set_option linter.unusedVariables false

/-- The end: places of names, lock and unlock. -/
def finishL (ls : List (List UInt8 × Int)) (rs : List (Ins × List UInt8 × Int)) : Prg × Int × Int :=
  match asm2 ls rs.length rs with
  | .inl (n, e) => (Prg.zero, n, e)
  | .inr l => if findL ls lockW rs.length < 0 ∨ findL ls unlockW rs.length < 0 then (Prg.zero, 0, 10)
    else (⟨l, findL ls lockW rs.length, findL ls unlockW rs.length⟩, 0, 0)
/-- What is assembled of the rest t of a text, from line n on. -/
def asmGo (t : List UInt8) (n : Int) (ls : List (List UInt8 × Int)) (rs : List (Ins × List UInt8 × Int)) : Prg × Int × Int :=
  match asm1 (piecesL t).dropLast n ls rs with
  | .inl (m, e) => (Prg.zero, m, e)
  | .inr (ls, rs) => if (piecesL t).getLastD [] ≠ [] then (Prg.zero, n + (piecesL t).length - 1, 8) else finishL ls rs
theorem asmGo_all (text : List UInt8) : asmL text = asmGo text 1 [] [] := by
  have e : (1 : Int) + ((piecesL text).length : Int) - 1 = ((piecesL text).length : Int) := by omega
  unfold asmL asmGo finishL
  rw [e]
theorem dropLast_cons {α : Type} (x : α) (l : List α) (h : l ≠ []) : (x :: l).dropLast = x :: l.dropLast := by
  cases l with
  | nil => exact absurd rfl h
  | cons a b => rfl
theorem getLastD_cons' {α : Type} (x d : α) (l : List α) (h : l ≠ []) : (x :: l).getLastD d = l.getLastD d := by
  cases l with
  | nil => exact absurd rfl h
  | cons a b => rfl
/-- One line. -/
theorem asmGo_line (s r : List UInt8) (h : Nl s) (n : Int) (ls : List (List UInt8 × Int)) (rs : List (Ins × List UInt8 × Int)) :
    asmGo (s ++ 10 :: r) n ls rs =
      if lbB s = true then (if (ls.any fun x => x.1 == s.dropLast) = true then (Prg.zero, n, 2) else asmGo r (n + 1) (ls ++ [(s.dropLast, (rs.length : Int))]) rs)
      else match lineL s with
        | none => (Prg.zero, n, 8)
        | some (i, nm) => if 64 ≤ rs.length then (Prg.zero, n, 9) else asmGo r (n + 1) ls (rs ++ [(i, nm, n)]) := by
  have hp := pieces_more s r h
  have hne := piecesL_ne r
  have e : n + ((piecesL (s ++ 10 :: r)).length : Int) - 1 = n + 1 + ((piecesL r).length : Int) - 1 := by
    rw [hp]
    simp
    omega
  unfold asmGo
  rw [e, hp, dropLast_cons _ _ hne, getLastD_cons' _ _ _ hne]
  simp only [asm1]
  by_cases h1 : lbB s = true
  · simp only [h1, if_true]
    by_cases h2 : (ls.any fun x => x.1 == s.dropLast) = true
    · simp only [h2, if_true]
    · simp only [h2]
      rfl
  · simp only [h1]
    cases hl : lineL s with
    | none => simp
    | some q =>
      obtain ⟨i, nm⟩ := q
      simp only
      by_cases h3 : 64 ≤ rs.length
      · simp [h3]
      · simp [h3]
/-- The rest without an end of line. -/
theorem asmGo_end (s : List UInt8) (h : Nl s) (n : Int) (ls : List (List UInt8 × Int)) (rs : List (Ins × List UInt8 × Int)) : asmGo s n ls rs = if s ≠ [] then (Prg.zero, n, 8) else finishL ls rs := by
  have hp : ∀ t : List UInt8, Nl t → piecesL t = [t] := by
    intro t
    induction t with
    | nil => intro _; rfl
    | cons c t ih =>
      intro ht
      rw [piecesL, if_neg (ht c List.mem_cons_self), ih fun d hd => ht d (List.mem_cons_of_mem _ hd)]
      rfl
  unfold asmGo
  rw [hp s h]
  simp [asm1]

/-- The second turn, row by row. -/
theorem asm2_skip (ls : List (List UInt8 × Int)) (n : Int) (i : Ins) (row : Int) (more : List (Ins × List UInt8 × Int)) :
    asm2 ls n ((i, [], row) :: more) = match asm2 ls n more with | .inl e => .inl e | .inr l => .inr (i :: l) := by
  simp only [asm2]
  rfl
theorem asm2_name (ls : List (List UInt8 × Int)) (n : Int) (i : Ins) (nm : List UInt8) (hn : nm ≠ []) (row : Int) (more : List (Ins × List UInt8 × Int)) :
    asm2 ls n ((i, nm, row) :: more) = if findL ls nm n < 0 then .inl (row, 10) else match asm2 ls n more with | .inl e => .inl e | .inr l => .inr ({ i with pl := findL ls nm n } :: l) := by
  simp only [asm2]
  rw [if_neg hn]
end Go.Proofs.YthdgehcghklflaaGreatDoor

/- The document's Parse. -/
namespace Go.Proofs.YthdgehcghklflaaGreatDoor
open Go.ChangeShapes Go.WideShapes Go.ChangeAt Go.RowKit
set_option linter.unusedVariables false

/-- What Parse answers. -/
def parseRV (s : List UInt8) : Value := if parseRB s = true then .tuple #[iv (draftR (wordsL s)), .bool true] else .tuple #[iv Ins.zero, .bool false]

theorem opTo_succ (w : List UInt8) (n : Nat) : opTo w (n + 1) = if (nmL ((n : Int) + 1)).isEmpty = false ∧ nmL ((n : Int) + 1) = w then (n : Int) + 1 else opTo w n := rfl

/-- The words lie in a row of the call's own. -/
structure WsAt (x : World) (g cap : Nat) (ws : List (List UInt8)) : Prop where
  lt : g < x.heap.size
  le : ws.length ≤ cap
  small : cap ≤ maxLen
  at_ : ∀ n, n < ws.length → x.cell? ⟨g, n, none⟩ = some (.string ⟨(ws.getD n []).toArray⟩)
theorem WsAt.below {x y : World} {g cap : Nat} {ws : List (List UInt8)} (h : WsAt x g cap ws) (hb : Below x.heap.size x y) : WsAt y g cap ws :=
  ⟨Nat.lt_of_lt_of_le h.lt hb.size, h.le, h.small, fun n hn => (hb.cell (p := ⟨g, n, none⟩) h.lt).trans (h.at_ n hn)⟩
theorem ws_of {x : World} {v : Value} {ws : List (List UInt8)} (h : Vls 9 x v (wvs ws)) (h0 : 0 < ws.length) : ∃ g cap, v = .slice (some ⟨g, 0, none⟩) ws.length cap ∧ WsAt x g cap ws := by
  obtain ⟨a, cap, e, h1, h2, h3⟩ := h.is
  have hl : (wvs ws).length = ws.length := by simp [wvs]
  rw [hl] at e h1 h3
  obtain ⟨g, rfl, ho, -, hc⟩ := h3 h0
  refine ⟨g, cap, e, ?_, h1, h2, fun n hn => ?_⟩
  · exact h.lt ho
  · rcases hc n with hh | hh
    · rw [hh]
      simp [wvs, bs, hn]
    · omega


theorem regsOf_snoc (l : List (List UInt8)) (w : List UInt8) : regsOf (l ++ [w]) = regsOf l ++ regOf w := by simp [regsOf]
theorem numsOf_snoc (l : List (List UInt8)) (w : List UInt8) : numsOf (l ++ [w]) = numsOf l ++ numOf w := by simp [numsOf]
theorem kOf_snoc (l : List (List UInt8)) (w : List UInt8) : kOf (l ++ [w]) = if isNe w = true then 1 else kOf l := by
  unfold kOf
  cases h : isNe w <;> simp [h]
theorem regsOf_len (l : List (List UInt8)) : (regsOf l).length ≤ l.length := by
  induction l with
  | nil => simp [regsOf]
  | cons w l ih =>
    unfold regsOf at *
    have : (regOf w).length ≤ 1 := by unfold regOf; split <;> simp
    simp only [List.flatMap_cons, List.length_append, List.length_cons]
    omega
theorem numsOf_len (l : List (List UInt8)) : (numsOf l).length ≤ l.length := by
  induction l with
  | nil => simp [numsOf]
  | cons w l ih =>
    unfold numsOf at *
    have : (numOf w).length ≤ 1 := by
      unfold numOf
      split
      · simp
      · split <;> simp
    simp only [List.flatMap_cons, List.length_append, List.length_cons]
    omega

/-- The words l are read: what has come of them. -/
structure PAt (w y : World) (H B5 gl cap : Nat) (ws : List (List UInt8)) (op : Int) (l : List (List UInt8)) (rs ns : List Int) (rv nv : Value) : Prop where
  below : Below w.heap.size w y
  res : Jb y w.heap.size Ins.zero
  ins : Jb y B5 ⟨op, 0, 0, 0, 0, 0, kOf l, 0⟩
  words : WsAt y gl cap ws
  regs : Lst .i64 3 y rv rs
  nums : Lst .i64 3 y nv ns
  fr : ∀ g, rv.ownBlock = some g → H ≤ g
  fn : ∀ g, nv.ownBlock = some g → H ≤ g
  ne : ∀ g, rv.ownBlock = some g → nv.ownBlock ≠ some g
  big : H ≤ y.heap.size
  h0 : w.heap.size < H
  h5 : B5 < H
  hl : gl < H

section
variable {w y y' : World} {H B5 gl cap : Nat} {ws : List (List UInt8)} {op : Int} {l l' : List (List UInt8)} {rs ns rs' ns' : List Int} {rv nv v' : Value}
theorem WsAt.off (h : WsAt y gl cap ws) {r : Option Nat} (hg : y.grownBy y' r) (hne : some gl ≠ r) : WsAt y' gl cap ws :=
  ⟨Nat.lt_of_lt_of_le h.lt hg.size, h.le, h.small, fun n hn => (World.cell?_of_block (a := ⟨gl, n, none⟩) (hg.block gl h.lt hne)).trans (h.at_ n hn)⟩
theorem far_of (h : ∀ g, rv.ownBlock = some g → H ≤ g) {b : Nat} (hb : b < H) : some b ≠ rv.ownBlock := fun e => by
  have := h b e.symm
  omega
theorem PAt.reg (h : PAt w y H B5 gl cap ws op l rs ns rv nv) (hg : y.grownBy y' rv.ownBlock) (hL : Lst .i64 3 y' v' rs') (hloc : v'.ownBlock = rv.ownBlock ∨ v'.ownBlock = some (y.heap.size + 1)) (hk : kOf l' = kOf l) :
    PAt w y' H B5 gl cap ws op l' rs' ns v' nv := by
  refine ⟨h.below.grown hg h.below.size (fun k e => by have := h.fr k e; have := h.h0; omega), h.res.grown hg (far_of h.fr h.h0), ?_, h.words.off hg (far_of h.fr h.hl), hL, ?_, ?_, h.fn, ?_, Nat.le_trans h.big hg.size, h.h0, h.h5, h.hl⟩
  · rw [hk]; exact h.ins.grown hg (far_of h.fr h.h5)
  · refine h.nums.kept hg ?_
    cases e : nv.ownBlock with
    | none => exact .inl rfl
    | some g => exact .inr fun e2 => h.ne g e2.symm e
  · intro g e
    rcases hloc with e2 | e2
    · exact h.fr g (e2 ▸ e)
    · rw [e2] at e; injection e with e; have := h.big; omega
  · intro g e e3
    rcases hloc with e2 | e2
    · exact h.ne g (e2 ▸ e) e3
    · rw [e2] at e; injection e with e; have := h.nums.lt e3; omega
theorem PAt.num (h : PAt w y H B5 gl cap ws op l rs ns rv nv) (hg : y.grownBy y' nv.ownBlock) (hL : Lst .i64 3 y' v' ns') (hloc : v'.ownBlock = nv.ownBlock ∨ v'.ownBlock = some (y.heap.size + 1)) (hk : kOf l' = kOf l) :
    PAt w y' H B5 gl cap ws op l' rs ns' rv v' := by
  refine ⟨h.below.grown hg h.below.size (fun k e => by have := h.fn k e; have := h.h0; omega), h.res.grown hg (far_of h.fn h.h0), ?_, h.words.off hg (far_of h.fn h.hl), ?_, hL, h.fr, ?_, ?_, Nat.le_trans h.big hg.size, h.h0, h.h5, h.hl⟩
  · rw [hk]; exact h.ins.grown hg (far_of h.fn h.h5)
  · refine h.regs.kept hg ?_
    cases e : rv.ownBlock with
    | none => exact .inl rfl
    | some g => exact .inr fun e2 => h.ne g e e2.symm
  · intro g e
    rcases hloc with e2 | e2
    · exact h.fn g (e2 ▸ e)
    · rw [e2] at e; injection e with e; have := h.big; omega
  · intro g e e3
    rcases hloc with e2 | e2
    · exact h.ne g e (e2 ▸ e3)
    · rw [e2] at e3; injection e3 with e3; have := h.regs.lt e; omega
theorem PAt.one (h : PAt w y H B5 gl cap ws op l rs ns rv nv) (h2l : w.heap.size < B5) (hg5 : gl ≠ B5) (hk : kOf l' = 1) :
    PAt w (y.setCell ⟨B5, 6, none⟩ (.int .u32 1)) H B5 gl cap ws op l' rs ns rv nv := by
  have hon := only_put y B5 6 (.int .u32 1)
  refine ⟨h.below.setCell (p := ⟨B5, 6, none⟩) (Nat.le_of_lt h2l) _, Bk.off h.res (show w.heap.size ≠ B5 by omega) _, ?_, h.words.off hon (by simpa using hg5), h.regs.kept hon ?_, h.nums.kept hon ?_, h.fr, h.fn, h.ne, Nat.le_trans h.big hon.size, h.h0, h.h5, h.hl⟩
  · rw [hk]; exact Bk.put h.ins 6 (.int .u32 1)
  · cases e : rv.ownBlock with
    | none => exact .inl rfl
    | some g => exact .inr fun e2 => by injection e2 with e2; have := h.fr g e; have := h.h5; omega
  · cases e : nv.ownBlock with
    | none => exact .inl rfl
    | some g => exact .inr fun e2 => by injection e2 with e2; have := h.fn g e; have := h.h5; omega
theorem PAt.skip (h : PAt w y H B5 gl cap ws op l rs ns rv nv) (hk : kOf l' = kOf l) : PAt w y H B5 gl cap ws op l' rs ns rv nv :=
  ⟨h.below, h.res, by rw [hk]; exact h.ins, h.words, h.regs, h.nums, h.fr, h.fn, h.ne, h.big, h.h0, h.h5, h.hl⟩
end

theorem tail_snoc (ws : List (List UInt8)) (j : Nat) (h : j + 1 < ws.length) : ws.tail.take (j + 1) = ws.tail.take j ++ [ws.getD (j + 1) []] := by
  rw [List.take_succ_eq_append_getElem (by simp; omega)]
  congr 1
  simp [h]

theorem run_tail (g len cap : Nat) (h1 : 1 ≤ len) (h2 : len ≤ cap) (h3 : cap ≤ 9223372036854775807) :
    ∃ A : Addr, (∀ w, (Instr.slice 144 (.slice (some ⟨g, 0, none⟩) len cap) (some (.int .i64 1)) none none).run Tryz.prog w = .ok (.slice (some A) (len - 1) (cap - 1)) w) ∧ (1 < len → A = ⟨g, 1, none⟩) := by
  have hu := Tryz.underlying144
  by_cases hc : cap = 1
  · subst hc
    obtain rfl : len = 1 := by omega
    refine ⟨⟨g, 0, none⟩, fun w => ?_, fun h => by omega⟩
    go_simp
  · refine ⟨⟨g, 1, none⟩, fun w => ?_, fun _ => rfl⟩
    have k1 : 1 < cap := by omega
    have k2 : (1 : Int) ≤ (len : Int) := by omega
    go_simp

def sliceLen : Value → Nat
  | .slice _ n _ => n
  | _ => 0
theorem pad_snoc (l : List Int) (k : Nat) (v : Int) : (l ++ List.replicate k v) ++ [v] = l ++ List.replicate (k + 1) v := by
  rw [List.append_assoc, ← List.replicate_succ']
theorem PAt.later {w y y' : World} {H B5 gl cap : Nat} {ws : List (List UInt8)} {op : Int} {l : List (List UInt8)} {rs ns : List Int} {rv nv : Value} (h : PAt w y H B5 gl cap ws op l rs ns rv nv) (hb : Below y.heap.size y y') : PAt w y' H B5 gl cap ws op l rs ns rv nv :=
  have hg := grown_of_below hb
  ⟨h.below.trans (hb.mono h.below.size), h.res.below hb, h.ins.below hb, h.words.below hb, h.regs.kept hg (by cases rv.ownBlock <;> simp), h.nums.kept hg (by cases nv.ownBlock <;> simp), h.fr, h.fn, h.ne, Nat.le_trans h.big hb.size, h.h0, h.h5, h.hl⟩

/-- The instruction i lies at B5, the result's cells are still zero. -/
structure Sw (w y : World) (B5 : Nat) (i : Ins) : Prop where
  ins : Jb y B5 i
  res : Jb y w.heap.size Ins.zero
  bel : Below w.heap.size w y
  lt : w.heap.size < B5
section
variable {w y : World} {B5 : Nat} {op d s t u a k pl : Int}
theorem Sw.drew {i : Ins} (h : Sw w y B5 i) : Sw w y.drew B5 i := ⟨h.ins, h.res, Below.drew h.bel, h.lt⟩
theorem Sw.put1 (h : Sw w y B5 ⟨op, d, s, t, u, a, k, pl⟩) (v : Int) : Sw w (y.setCell ⟨B5, 1, none⟩ (.int .i64 v)) B5 ⟨op, v, s, t, u, a, k, pl⟩ :=
  ⟨Bk.put h.ins 1 (.int .i64 v), Bk.off h.res (Nat.ne_of_lt h.lt) _, Below.setCell (p := ⟨B5, 1, none⟩) h.bel (Nat.le_of_lt h.lt) _, h.lt⟩
theorem Sw.put2 (h : Sw w y B5 ⟨op, d, s, t, u, a, k, pl⟩) (v : Int) : Sw w (y.setCell ⟨B5, 2, none⟩ (.int .i64 v)) B5 ⟨op, d, v, t, u, a, k, pl⟩ :=
  ⟨Bk.put h.ins 2 (.int .i64 v), Bk.off h.res (Nat.ne_of_lt h.lt) _, Below.setCell (p := ⟨B5, 2, none⟩) h.bel (Nat.le_of_lt h.lt) _, h.lt⟩
theorem Sw.put3 (h : Sw w y B5 ⟨op, d, s, t, u, a, k, pl⟩) (v : Int) : Sw w (y.setCell ⟨B5, 3, none⟩ (.int .i64 v)) B5 ⟨op, d, s, v, u, a, k, pl⟩ :=
  ⟨Bk.put h.ins 3 (.int .i64 v), Bk.off h.res (Nat.ne_of_lt h.lt) _, Below.setCell (p := ⟨B5, 3, none⟩) h.bel (Nat.le_of_lt h.lt) _, h.lt⟩
theorem Sw.put4 (h : Sw w y B5 ⟨op, d, s, t, u, a, k, pl⟩) (v : Int) : Sw w (y.setCell ⟨B5, 4, none⟩ (.int .i64 v)) B5 ⟨op, d, s, t, v, a, k, pl⟩ :=
  ⟨Bk.put h.ins 4 (.int .i64 v), Bk.off h.res (Nat.ne_of_lt h.lt) _, Below.setCell (p := ⟨B5, 4, none⟩) h.bel (Nat.le_of_lt h.lt) _, h.lt⟩
theorem Sw.put5 (h : Sw w y B5 ⟨op, d, s, t, u, a, k, pl⟩) (v : Int) : Sw w (y.setCell ⟨B5, 5, none⟩ (.int .i64 v)) B5 ⟨op, d, s, t, u, v, k, pl⟩ :=
  ⟨Bk.put h.ins 5 (.int .i64 v), Bk.off h.res (Nat.ne_of_lt h.lt) _, Below.setCell (p := ⟨B5, 5, none⟩) h.bel (Nat.le_of_lt h.lt) _, h.lt⟩
theorem Sw.put6 (h : Sw w y B5 ⟨op, d, s, t, u, a, k, pl⟩) (v : Int) : Sw w (y.setCell ⟨B5, 6, none⟩ (.int .u32 v)) B5 ⟨op, d, s, t, u, a, v, pl⟩ :=
  ⟨Bk.put h.ins 6 (.int .u32 v), Bk.off h.res (Nat.ne_of_lt h.lt) _, Below.setCell (p := ⟨B5, 6, none⟩) h.bel (Nat.le_of_lt h.lt) _, h.lt⟩
theorem Sw.put7 (h : Sw w y B5 ⟨op, d, s, t, u, a, k, pl⟩) (v : Int) : Sw w (y.setCell ⟨B5, 7, none⟩ (.int .i64 v)) B5 ⟨op, d, s, t, u, a, k, v⟩ :=
  ⟨Bk.put h.ins 7 (.int .i64 v), Bk.off h.res (Nat.ne_of_lt h.lt) _, Below.setCell (p := ⟨B5, 7, none⟩) h.bel (Nat.le_of_lt h.lt) _, h.lt⟩
end

/-- The block n of a piece of code. -/
def codeFind (n : Nat) : Code → Option Code
  | .block i b => if i = n then some (.block i b) else codeFind n b
  | .seq a b => (codeFind n a).or (codeFind n b)
  | .cond _ a b => (codeFind n a).or (codeFind n b)
  | .loop b => codeFind n b
  | _ => none
end Go.Proofs.YthdgehcghklflaaGreatDoor

/- The program's Spec of the ticket lock. -/
namespace Go.Proofs.YthdgehcghklflaaGreatDoor
set_option maxRecDepth 100000
open Go.ChangeShapes Go.WideShapes Go.ChangeAt Go.RowKit
set_option linter.unusedVariables false

theorem word32Info : (Tryz.prog.info? 22).map (fun i => (i.zero, i.size, i.bytes)) = some (some (.int .u32 0), 1, 4) := by kernel_rfl
theorem makeWords (N : Nat) (hN : N ≤ 40000) (W : World) : (Instr.makeSlice 27 (.int .i64 N) (.int .i64 N)).run Tryz.prog W = .ok (.slice (some ⟨W.heap.size, 0, none⟩) N N) (W.alloc (.cells (madeCells #[.int .u32 0] N) 22)) := by
  obtain ⟨i0, hi0, hz0, hz1, hz2⟩ := info_parts word32Info
  have h := run_make (P := Tryz.prog) W 27 22 i0 _ Tryz.underlying27 hi0 hz0 .i64 .i64 N N (by omega) (by omega) (by rw [hz2]; omega) (by omega)
  rw [hz1] at h
  simpa [Value.cells] using h
/-- What an Assemble of the program's leaves. -/
def AsmC (w : World) (e : Ending) (w' : World) : Prop := ∃ v, e = .returned (.tuple #[v, .int .i64 0, .int .i64 0]) ∧ Pg w' w.heap.size v tkP ∧ Below w.heap.size w w'
/-- A spec's value, the three rows of its own beside the code. -/
def SpN (aL : Option Addr) (n cL : Nat) (lo un st : Int) (N : Nat) (v : Value) (W : World) : Prop :=
  ∃ b1 b2 b3, v = .agg #[.slice aL n cL, .int .i64 lo, .int .i64 un, .slice (some ⟨b1, 0, none⟩) 2 2, .slice (some ⟨b2, 0, none⟩) 2 2, .int .i64 0, .slice (some ⟨b3, 0, none⟩) N N] ∧ Bk W b1 3 #[.int .i64 1, .int .i64 1] ∧ Bk W b2 22 #[.int .u32 st, .int .u32 st] ∧ Bk W b3 22 (madeCells #[.int .u32 0] N)
def Sl1 (v : Value) (W : World) : Prop := ∃ b, v = .slice (some ⟨b, 0, none⟩) 2 2 ∧ Bk W b 3 #[.int .i64 1, .int .i64 1]
def Sl2 (st : Int) (v : Value) (W : World) : Prop := ∃ b, v = .slice (some ⟨b, 0, none⟩) 2 2 ∧ Bk W b 22 #[.int .u32 st, .int .u32 st]
def Sl3 (N : Nat) (v : Value) (W : World) : Prop := ∃ b, v = .slice (some ⟨b, 0, none⟩) N N ∧ Bk W b 22 (madeCells #[.int .u32 0] N)
section
variable {aL : Option Addr} {n cL N : Nat} {lo un st : Int} {v : Value} {W W' : World}
theorem SpN.within {S : Nat → Prop} (h : SpN aL n cL lo un st N v W) (hw : Within W W' S) (hS : ∀ b, S b → ∃ t cs, Bk W b t cs ∧ t ≠ 3 ∧ t ≠ 22) : SpN aL n cL lo un st N v W' := by
  obtain ⟨b1, b2, b3, e, h1, h2, h3⟩ := h
  refine ⟨b1, b2, b3, e, h1.within hw fun hs => ?_, h2.within hw fun hs => ?_, h3.within hw fun hs => ?_⟩
  · obtain ⟨t, cs, hb, ht, _⟩ := hS _ hs; exact Bk.unlike h1 hb (fun e => ht e.symm) rfl
  · obtain ⟨t, cs, hb, _, ht⟩ := hS _ hs; exact Bk.unlike h2 hb (fun e => ht e.symm) rfl
  · obtain ⟨t, cs, hb, _, ht⟩ := hS _ hs; exact Bk.unlike h3 hb (fun e => ht e.symm) rfl
theorem SpN.below (h : SpN aL n cL lo un st N v W) (hb : Below W.heap.size W W') : SpN aL n cL lo un st N v W' := h.within (within_of_below hb) (by simp)
theorem Sl1.below (h : Sl1 v W) (hb : Below W.heap.size W W') : Sl1 v W' := by obtain ⟨b, e, h1⟩ := h; exact ⟨b, e, (hb.block _ h1.lt).trans h1⟩
theorem Sl2.below (h : Sl2 st v W) (hb : Below W.heap.size W W') : Sl2 st v W' := by obtain ⟨b, e, h1⟩ := h; exact ⟨b, e, (hb.block _ h1.lt).trans h1⟩
theorem Sl3.below (h : Sl3 N v W) (hb : Below W.heap.size W W') : Sl3 N v W' := by obtain ⟨b, e, h1⟩ := h; exact ⟨b, e, (hb.block _ h1.lt).trans h1⟩
theorem Sl1.within {S : Nat → Prop} (h : Sl1 v W) (hw : Within W W' S) (hS : ∀ b, S b → ∃ t cs, Bk W b t cs ∧ t ≠ 3 ∧ t ≠ 22) : Sl1 v W' := by
  obtain ⟨b, e, h1⟩ := h; exact ⟨b, e, h1.within hw fun hs => by obtain ⟨t, cs, hb, ht, _⟩ := hS _ hs; exact Bk.unlike h1 hb (fun e => ht e.symm) rfl⟩
theorem Sl2.within {S : Nat → Prop} (h : Sl2 st v W) (hw : Within W W' S) (hS : ∀ b, S b → ∃ t cs, Bk W b t cs ∧ t ≠ 3 ∧ t ≠ 22) : Sl2 st v W' := by
  obtain ⟨b, e, h1⟩ := h; exact ⟨b, e, h1.within hw fun hs => by obtain ⟨t, cs, hb, _, ht⟩ := hS _ hs; exact Bk.unlike h1 hb (fun e => ht e.symm) rfl⟩
theorem Sl3.within {S : Nat → Prop} (h : Sl3 N v W) (hw : Within W W' S) (hS : ∀ b, S b → ∃ t cs, Bk W b t cs ∧ t ≠ 3 ∧ t ≠ 22) : Sl3 N v W' := by
  obtain ⟨b, e, h1⟩ := h; exact ⟨b, e, h1.within hw fun hs => by obtain ⟨t, cs, hb, _, ht⟩ := hS _ hs; exact Bk.unlike h1 hb (fun e => ht e.symm) rfl⟩
/-- .. what was made, as what can be read. -/
theorem given_two {k : IntKind} {t : TypeId} {b : Nat} {x : Int} (h : Bk W b t #[.int k x, .int k x]) : Given k W (some ⟨b, 0, none⟩) [x, x] := fun _ => ⟨b, 0, rfl, h.lt, fun i hi => by
  have : i = 0 ∨ i = 1 := by simp at hi; omega
  rcases this with rfl | rfl
  · exact h.cell 0
  · exact h.cell 1⟩
theorem given_zeros {t : TypeId} {b : Nat} (h : Bk W b t (madeCells #[.int .u32 0] N)) : Given .u32 W (some ⟨b, 0, none⟩) (tkR N) := fun _ => ⟨b, 0, rfl, h.lt, fun i hi => by
  have hi2 : i < N := by simpa [tkR] using hi
  rw [Nat.zero_add, h.cell]
  have e : nth (tkR N) i = 0 := by
    unfold nth tkR
    rw [List.getD_eq_getElem?_getD, List.getElem?_replicate]
    split <;> rfl
  rw [e]
  unfold madeCells
  simp [hi2, Nat.mod_one]⟩
end
set_option maxHeartbeats 4000000 in
theorem cSpecW (N : Nat) (st : Int) (w : World) (h1 : 1 ≤ N) (h64 : N ≤ 64) (h0 : 0 ≤ st) (h2 : st < 4294967296) (HA : ∀ W, Below w.heap.size w W → Calls Tryz.prog 27 #[bs tkText] W (AsmC W)) :
    Calls Tryz.prog 8 #[.int .i64 N, .int .u32 st] w fun e w' => ∃ v, e = .returned (.tuple #[v, .int .i64 0]) ∧ Sv w' v tkP [1, 1] [st, st] (tkR N) 0 ∧ Below w.heap.size w w' := by
  have HAA := Lib.hid HA
  unfold bs tkText at HAA
  unfold AsmC at HAA
  generalize tkP = c at *
  have hb1 : Below w.heap.size w (w.alloc (.cells #[.slice none 0 0, .int .i64 0, .int .i64 0, .slice none 0 0, .slice none 0 0, .int .i64 0, .slice none 0 0] 29)) := (Below.refl _ _).alloc (Nat.le_refl _) _
  have q0 := Bk.made w 29 #[.slice none 0 0, .int .i64 0, .int .i64 0, .slice none 0 0, .slice none 0 0, .int .i64 0, .slice none 0 0]
  clear HA
  go_enter Tryz.func8, Tryz.ntmps8
  go_upto_region 3 with fail
  generalize w.alloc (.cells #[.slice none 0 0, .int .i64 0, .int .i64 0, .slice none 0 0, .slice none 0 0, .int .i64 0, .slice none 0 0] 29) = y at *
  go_upto_region 4 with (refine (HAA.out y hb1).mono ?_; rintro e z ⟨v, rfl, ⟨sl, rfl, hO⟩, hz⟩; obtain ⟨aL, cL, rfl, hcl⟩ := own_is hO)
  have q1 := (hz.block _ (Bk.lt q0)).trans q0
  have b1 := hb1.trans (hz.mono hb1.size)
  have q2 := Bk.made z 25 #[.slice aL c.l.length cL, .int .i64 c.lo, .int .i64 c.un]
  have hza : Below z.heap.size z (z.alloc (.cells #[.slice aL c.l.length cL, .int .i64 c.lo, .int .i64 c.un] 25)) := (Below.refl _ _).alloc (Nat.le_refl _) _
  replace q1 : Bk _ w.heap.size 29 #[.slice none 0 0, .int .i64 0, .int .i64 0, .slice none 0 0, .slice none 0 0, .int .i64 0, .slice none 0 0] := (hza.block _ (Bk.lt q1)).trans q1
  replace b1 := b1.trans (hza.mono b1.size)
  have hO2 := own_below hO hza
  obtain ⟨zb, hzb⟩ : ∃ zb, z.heap.size = zb := ⟨_, rfl⟩
  rw [hzb] at q2
  rw [hzb]
  generalize z.alloc (.cells #[.slice aL c.l.length cL, .int .i64 c.lo, .int .i64 c.un] 25) = x at *
  have HQ : Hid (∀ W, Below x.heap.size x W → Bk W zb 25 #[.slice aL c.l.length cL, .int .i64 c.lo, .int .i64 c.un] ∧ Bk W w.heap.size 29 #[.slice none 0 0, .int .i64 0, .int .i64 0, .slice none 0 0, .slice none 0 0, .int .i64 0, .slice none 0 0] ∧ Below w.heap.size w W ∧ W.ownsRow y.heap.size 119 8 (.slice aL c.l.length cL) c.l.length (progC c.l)) := Lib.hid fun W hW => ⟨(hW.block _ (Bk.lt q2)).trans q2, (hW.block _ (Bk.lt q1)).trans q1, b1.trans (hW.mono b1.size), own_below hO2 hW⟩
  have HC := Lib.hid hcl
  clear hO hO2 hza hz hb1 q0 q1 q2 b1 hzb HAA hcl
  refine wp_region_flow [8] (fun j W => match j with | 0 => Below x.heap.size x W | _ => ∃ v, SpN aL c.l.length cL c.lo c.un st N v W ∧ (∃ cs, v = .agg cs ∧ Bk W w.heap.size 29 cs) ∧ Below w.heap.size w W ∧ W.ownsRow y.heap.size 119 8 (.slice aL c.l.length cL) c.l.length (progC c.l)) (fun _ W W2 => Within W W2 (fun i => i = w.heap.size) ∧ ∃ cs, Bk W w.heap.size 29 cs) (fun vs => { tmps := #[.int .i64 (N : Int), .int .u32 st, undef, undef, .pointer (some ⟨w.heap.size, 0, none⟩), vs 9, .pointer (some ⟨zb, 0, none⟩), .int .i64 0, .int .i64 0, .int .i64 (N : Int), .bool (decide ((N : Int) < 1)), .bool (decide ((N : Int) < 1)), .int .i64 (N : Int), .bool (decide (64 < (N : Int))), .bool (decide ((N : Int) < 1) || decide (64 < (N : Int))), undef, .tuple #[.agg #[.slice aL c.l.length cL, .int .i64 c.lo, .int .i64 c.un], .int .i64 0, .int .i64 0], .tuple #[.agg #[.slice aL c.l.length cL, .int .i64 c.lo, .int .i64 c.un], .int .i64 0, .int .i64 0], .agg #[.slice aL c.l.length cL, .int .i64 c.lo, .int .i64 c.un], .int .i64 0, .int .i64 0, vs 0, vs 1, vs 2, vs 3, vs 4, vs 5, vs 6, vs 7], defers := [] }) (mixT [(1, Sl1), (4, Sl2 st), (6, Sl3 N), (7, SpN aL c.l.length cL c.lo c.un st N)] [.agg #[.slice aL c.l.length cL, .int .i64 c.lo, .int .i64 c.un], undef, .int .u32 st, .int .u32 st, undef, .int .i64 (N : Int), undef, undef, undef, .int .i64 0]) ?ghm ?ghr ?ghc ?ghnd ?ghlit ?gh0 ?ghW ?ghF ?ghS ?gops ?gdone
  case ghm => kernel_rfl
  case ghr => kernel_rfl
  case ghc => kernel_rfl
  case ghnd => decide
  case ghlit => intro vs; rfl
  case gh0 => exact Below.refl _ _
  case ghW => exact fun kk W W2 h hb => match kk, h with
    | 0, h => h.trans (hb.mono h.size)
    | _ + 1, ⟨v, h1, ⟨cs, h2, h3⟩, h4, h5⟩ => ⟨v, h1.below hb, ⟨cs, h2, (hb.block _ (Bk.lt h3)).trans h3⟩, h4.trans (hb.mono h4.size), own_below h5 hb⟩
  case ghF => exact mixT_stable (by
    intro p0 hp
    simp only [List.mem_cons, List.not_mem_nil, or_false] at hp
    rcases hp with rfl | rfl | rfl | rfl
    · exact fun v W W2 h hb => Sl1.below h hb
    · exact fun v W W2 h hb => Sl2.below h hb
    · exact fun v W W2 h hb => Sl3.below h hb
    · exact fun v W W2 h hb => SpN.below h hb)
  case ghS => exact fun kk W W2 _ hs i v h => mixT_keep (R := fun W W2 => Within W W2 (fun i => i = w.heap.size) ∧ ∃ cs, Bk W w.heap.size 29 cs) (ps := [(1, Sl1), (4, Sl2 st), (6, Sl3 N), (7, SpN aL c.l.length cL c.lo c.un st N)]) (l := [.agg #[.slice aL c.l.length cL, .int .i64 c.lo, .int .i64 c.un], undef, .int .u32 st, .int .u32 st, undef, .int .i64 (N : Int), undef, undef, undef, .int .i64 0]) (by
    intro p0 hp
    simp only [List.mem_cons, List.not_mem_nil, or_false] at hp
    rcases hp with rfl | rfl | rfl | rfl
    · rintro v W W2 h ⟨hw, cs, hb⟩; exact Sl1.within h hw (by rintro b rfl; exact ⟨_, _, hb, by decide, by decide⟩)
    · rintro v W W2 h ⟨hw, cs, hb⟩; exact Sl2.within h hw (by rintro b rfl; exact ⟨_, _, hb, by decide, by decide⟩)
    · rintro v W W2 h ⟨hw, cs, hb⟩; exact Sl3.within h hw (by rintro b rfl; exact ⟨_, _, hb, by decide, by decide⟩)
    · rintro v W W2 h ⟨hw, cs, hb⟩; exact SpN.within h hw (by rintro b rfl; exact ⟨_, _, hb, by decide, by decide⟩)) i v W W2 h hs
  case gops =>
    refine ⟨?_, ?_, ?_, ?_, ?_, ?_, ?_, ?_, ?_, ?_, trivial⟩
    · intro vs W kk h1 h2 hW hd
      obtain rfl : kk = 0 := Nat.le_zero.1 h2
      refine leaves_free rfl ?_
      have hq := (HQ.out W hW).1
      obtain ⟨y0, y1, y2⟩ : W.cell? ⟨zb, 0, none⟩ = some (.slice aL c.l.length cL) ∧ W.cell? ⟨zb, 1, none⟩ = some (.int .i64 c.lo) ∧ W.cell? ⟨zb, 2, none⟩ = some (.int .i64 c.un) := ⟨hq.cell 0, hq.cell 1, hq.cell 2⟩
      clear hq hd
      go_simp
      exact ⟨rfl, Below.refl _ _⟩
    · intro vs W kk h1 h2 hW hd
      obtain rfl : kk = 0 := Nat.le_zero.1 h2
      refine leaves_free rfl ?_
      clear hd
      go_simp
      exact ⟨⟨_, rfl, Bk.made W _ _⟩, (Below.refl _ _).alloc (Nat.le_refl _) _⟩
    · intro vs W kk h1 h2 hW hd
      obtain rfl : kk = 0 := Nat.le_zero.1 h2
      refine leaves_free rfl ?_
      clear hd
      go_simp
      exact ⟨rfl, Below.refl _ _⟩
    · intro vs W kk h1 h2 hW hd
      obtain rfl : kk = 0 := Nat.le_zero.1 h2
      refine leaves_free rfl ?_
      clear hd
      go_simp
      exact ⟨rfl, Below.refl _ _⟩
    · intro vs W kk h1 h2 hW hd
      obtain rfl : kk = 0 := Nat.le_zero.1 h2
      refine leaves_free rfl ?_
      have e2 : vs 2 = .int .u32 st := hd 2 (by decide)
      have e3 : vs 3 = .int .u32 st := hd 3 (by decide)
      clear hd
      go_simp
      exact ⟨⟨_, rfl, Bk.made W _ _⟩, (Below.refl _ _).alloc (Nat.le_refl _) _⟩
    · intro vs W kk h1 h2 hW hd
      obtain rfl : kk = 0 := Nat.le_zero.1 h2
      refine leaves_free rfl ?_
      clear hd
      go_simp
      exact ⟨rfl, Below.refl _ _⟩
    · intro vs W kk h1 h2 hW hd
      obtain rfl : kk = 0 := Nat.le_zero.1 h2
      refine leaves_free rfl ?_
      have e5 : vs 5 = .int .i64 (N : Int) := hd 5 (by decide)
      have hmk := makeWords N (by omega) W
      clear hd
      go_simp
      try simp only [hmk]
      exact ⟨⟨_, rfl, Bk.made W _ _⟩, (Below.refl _ _).alloc (Nat.le_refl _) _⟩
    · intro vs W kk h1 h2 hW hd
      obtain rfl : kk = 0 := Nat.le_zero.1 h2
      refine leaves_free rfl ?_
      have e0 : vs 0 = .agg #[.slice aL c.l.length cL, .int .i64 c.lo, .int .i64 c.un] := hd 0 (by decide)
      obtain ⟨d1, e1, k1⟩ : Sl1 (vs 1) W := hd 1 (by decide)
      obtain ⟨d4, e4, k4⟩ : Sl2 st (vs 4) W := hd 4 (by decide)
      obtain ⟨d6, e6, k6⟩ : Sl3 N (vs 6) W := hd 6 (by decide)
      clear hd
      go_simp
      exact ⟨⟨d1, d4, d6, rfl, k1, k4, k6⟩, Below.refl _ _⟩
    · intro vs W hW hd
      have hsp : SpN aL c.l.length cL c.lo c.un st N (vs 7) W := hd 7 (by decide)
      obtain ⟨d1, d4, d6, e7, k1, k4, k6⟩ := id hsp
      obtain ⟨-, hq, hbw, hown⟩ := HQ.out W hW
      obtain ⟨y0, y1, y2, y3, y4, y5, y6⟩ : W.cell? ⟨w.heap.size, 0, none⟩ = some (.slice none 0 0) ∧ W.cell? ⟨w.heap.size, 1, none⟩ = some (.int .i64 0) ∧ W.cell? ⟨w.heap.size, 2, none⟩ = some (.int .i64 0) ∧ W.cell? ⟨w.heap.size, 3, none⟩ = some (.slice none 0 0) ∧ W.cell? ⟨w.heap.size, 4, none⟩ = some (.slice none 0 0) ∧ W.cell? ⟨w.heap.size, 5, none⟩ = some (.int .i64 0) ∧ W.cell? ⟨w.heap.size, 6, none⟩ = some (.slice none 0 0) := ⟨hq.cell 0, hq.cell 1, hq.cell 2, hq.cell 3, hq.cell 4, hq.cell 5, hq.cell 6⟩
      have zf := Bk.free hq
      have hw7 := put7_within (y := W) (g := w.heap.size) (.slice aL c.l.length cL) (.int .i64 c.lo) (.int .i64 c.un) (.slice (some ⟨d1, 0, none⟩) 2 2) (.slice (some ⟨d4, 0, none⟩) 2 2) (.int .i64 0) (.slice (some ⟨d6, 0, none⟩) N N)
      have hk7 := put7_bk hq (.slice aL c.l.length cL) (.int .i64 c.lo) (.int .i64 c.un) (.slice (some ⟨d1, 0, none⟩) 2 2) (.slice (some ⟨d4, 0, none⟩) 2 2) (.int .i64 0) (.slice (some ⟨d6, 0, none⟩) N N)
      have hb7 := put7_below hbw (Nat.le_refl _) (.slice aL c.l.length cL) (.int .i64 c.lo) (.int .i64 c.un) (.slice (some ⟨d1, 0, none⟩) 2 2) (.slice (some ⟨d4, 0, none⟩) 2 2) (.int .i64 0) (.slice (some ⟨d6, 0, none⟩) N N)
      rw [e7] at hsp
      have hs7 := SpN.within hsp hw7 (by rintro b rfl; exact ⟨_, _, hq, by decide, by decide⟩)
      have ho7 := own_safe hown hw7 hq (by decide)
      have HKK := Lib.hid (And.intro hs7 (And.intro hk7 (And.intro hb7 (And.intro ho7 (And.intro hw7 hq)))))
      refine leavesIf_free rfl ?_
      clear hd hsp hs7 hk7 hb7 ho7 hw7 hq hbw hown k1 k4 k6
      go_simp
      exact ⟨rfl, ⟨_, HKK.out.1, ⟨_, rfl, HKK.out.2.1⟩, HKK.out.2.2.1, HKK.out.2.2.2.1⟩, HKK.out.2.2.2.2.1, _, HKK.out.2.2.2.2.2⟩
    · intro vs W kk h1 h2 hW hd
      refine leaves_free rfl ?_
      clear hd
      go_simp
      exact ⟨rfl, Below.refl _ _⟩
  case gdone =>
    intro vs W hW hf
    have f0 : vs 0 = .agg #[.slice aL c.l.length cL, .int .i64 c.lo, .int .i64 c.un] := hf 0 (by decide)
    have f2 : vs 2 = .int .u32 st := hf 2 (by decide)
    have f3 : vs 3 = .int .u32 st := hf 3 (by decide)
    have f5 : vs 5 = .int .i64 (N : Int) := hf 5 (by decide)
    have f9 : vs 9 = .int .i64 0 := hf 9 (by decide)
    simp only [f0, f2, f3, f5, f9]
    clear f0 f2 f3 f5 f9
    obtain ⟨v, ⟨d1, d4, d6, rfl, k1, k4, k6⟩, ⟨cs, hcs, hq⟩, hbw, hown⟩ : ∃ v, SpN aL c.l.length cL c.lo c.un st N v W ∧ (∃ cs, v = .agg cs ∧ Bk W w.heap.size 29 cs) ∧ Below w.heap.size w W ∧ W.ownsRow y.heap.size 119 8 (.slice aL c.l.length cL) c.l.length (progC c.l) := hW
    injection hcs with hcs
    subst hcs
    generalize vs 1 = r1 at *
    generalize vs 4 = r4 at *
    generalize vs 6 = r6 at *
    generalize vs 7 = r7 at *
    clear hf HQ
    obtain ⟨y0, y1, y2, y3, y4, y5, y6⟩ : W.cell? ⟨w.heap.size, 0, none⟩ = some (.slice aL c.l.length cL) ∧ W.cell? ⟨w.heap.size, 1, none⟩ = some (.int .i64 c.lo) ∧ W.cell? ⟨w.heap.size, 2, none⟩ = some (.int .i64 c.un) ∧ W.cell? ⟨w.heap.size, 3, none⟩ = some (.slice (some ⟨d1, 0, none⟩) 2 2) ∧ W.cell? ⟨w.heap.size, 4, none⟩ = some (.slice (some ⟨d4, 0, none⟩) 2 2) ∧ W.cell? ⟨w.heap.size, 5, none⟩ = some (.int .i64 0) ∧ W.cell? ⟨w.heap.size, 6, none⟩ = some (.slice (some ⟨d6, 0, none⟩) N N) := ⟨hq.cell 0, hq.cell 1, hq.cell 2, hq.cell 3, hq.cell 4, hq.cell 5, hq.cell 6⟩
    have hpv := own_pv hown
    go_wp
    exact bodyPost_ret (v := .tuple #[.agg #[.slice aL c.l.length cL, .int .i64 c.lo, .int .i64 c.un, .slice (some ⟨d1, 0, none⟩) 2 2, .slice (some ⟨d4, 0, none⟩) 2 2, .int .i64 0, .slice (some ⟨d6, 0, none⟩) N N], .int .i64 0]) (by simp [results, Tryz.results8, go_sem, y0, y1, y2, y3, y4, y5, y6]) rfl ⟨_, rfl, ⟨aL, cL, _, 2, _, 2, _, N, by rw [show (tkR N).length = N from List.length_replicate]; rfl, hpv, given_two k1, given_two k4, given_zeros k6, by simp [maxLen], by simp [maxLen], by rw [show (tkR N).length = N from List.length_replicate]; unfold maxLen; omega⟩, hbw⟩
end Go.Proofs.YthdgehcghklflaaGreatDoor

/- The document's run: words. -/
namespace Go.Proofs.YthdgehcghklflaaGreatDoor
set_option maxRecDepth 100000
open Go.ChangeShapes Go.WideShapes Go.ChangeAt Go.RowKit
set_option linter.unusedVariables false

theorem below_drawnV (z : World) (n : Nat) : Below z.heap.size z (z.drewN n) := ⟨rfl, rfl, rfl, Nat.le_refl _, fun _ _ => rfl⟩
theorem take_same {xs ys : List Int} {j : Nat} (hj : j < xs.length) (hl : xs.length = ys.length) (h : xs.take j = ys.take j) (e : nth xs j = nth ys j) : xs.take (j + 1) = ys.take (j + 1) := by
  rw [take_at xs j hj, take_at ys j (by omega), h]
  rw [nth_lt hj, nth_lt (by omega)] at e
  rw [e]
theorem take_other {xs ys : List Int} {j : Nat} (e : nth xs j ≠ nth ys j) : xs ≠ ys := fun h => e (by rw [h])
set_option maxHeartbeats 2000000 in
theorem rWords32 (w : World) (a b : Option Addr) (ca cb : Nat) (xs ys : List Int) (ha : Given .u32 w a xs) (hb : Given .u32 w b ys) (hm : xs.length ≤ maxLen) (hm2 : ys.length ≤ maxLen) :
    Calls Tryz.prog 30 #[.slice a xs.length ca, .slice b ys.length cb] w fun e w' => e = .returned (.bool (decide (xs = ys))) ∧ Below w.heap.size w w' := by
  have HA := Lib.hid ha
  have HB := Lib.hid hb
  simp only [maxLen] at hm hm2
  clear ha hb
  by_cases hl : xs.length = ys.length
  · have HL := Lib.hid hl
    have dl : ((xs.length : Int) != (ys.length : Int)) = false := by rw [hl]; simp
    have HR : Hid (∀ v, decide (xs = ys) = v → (Ending.returned (.bool v) : Ending) = .returned (.bool (decide (xs = ys)))) := Lib.hid (fun v h => by rw [h])
    generalize hres : decide (xs = ys) = res at HR ⊢
    have HRes := Lib.hid hres
    clear hl hres
    go_enter Tryz.func30, Tryz.ntmps30
    go_wp2
    go_loopw [13] (fun x wr => ∃ (j : Nat), x = .int .i64 j ∧ j ≤ xs.length ∧ Hid (xs.take j = ys.take j) ∧ Below w.heap.size w wr) (fun x _ => xs.length - (intOf x).toNat)
    case atStart => exact ⟨0, rfl, Nat.zero_le _, Lib.hid rfl, Below.refl _ _⟩
    case round =>
      obtain ⟨j, rfl, hj, HT, hbl⟩ := hrel
      by_cases hlt : j < xs.length
      · have hji : (j : Int) < xs.length := by omega
        have hjy : (j : Int) < ys.length := by have := HL.out; omega
        obtain ⟨b1, o1, rfl, c1⟩ := HA.out.at_ hlt hbl
        obtain ⟨b2, o2, rfl, c2⟩ := HB.out.at_ (show j < ys.length by omega) hbl
        have HE := Lib.hid (fun e => take_same hlt HL.out HT.out e)
        have HN := Lib.hid (fun e => take_other (xs := xs) (ys := ys) (j := j) e)
        generalize nth xs j = x at *
        generalize nth ys j = y at *
        cases hq : (x != y) with
        | true =>
          have HV : Hid (res = false) := Lib.hid (by rw [← HRes.out]; exact decide_eq_false (HN.out (bne_iff_ne.1 hq)))
          clear HE HN HT
          go_upto_region 6 with fail
          go_quiet (fail)
          have hfin := hbl.trans ((below_drawnV wr nq).mono hbl.size)
          generalize wr.drewN nq = v at *
          go_wp2
          go_ret
          exact ⟨by rw [HV.out]; rfl, hfin⟩
        | false =>
          have HE2 := Lib.hid (HE.out (by simpa using hq))
          clear HE HN HT
          go_upto_region 6 with fail
          go_quiet (fail)
          have hfin := hbl.trans ((below_drawnV wr nq).mono hbl.size)
          generalize wr.drewN nq = v at *
          clear c1 c2 hbl
          go_wp2
          go_roundw
          case rel => exact ⟨j + 1, by go_num, by omega, HE2, hfin⟩
          case measure => simp [intOf]; omega
      · obtain rfl : j = xs.length := by omega
        have HV : Hid (res = true) := Lib.hid (by
          rw [← HRes.out]
          have h := HT.out
          rw [List.take_length, HL.out, List.take_length] at h
          exact decide_eq_true h)
        clear HT
        go_wp2
        go_ret
        exact ⟨by rw [HV.out]; rfl, hbl⟩
  · have dl : ((xs.length : Int) != (ys.length : Int)) = true := bne_iff_ne.2 (by omega)
    have HV : Hid (decide (xs = ys) = false) := Lib.hid (decide_eq_false (fun h => hl (by rw [h])))
    clear hl
    go_enter Tryz.func30, Tryz.ntmps30
    go_wp2
    go_ret
    exact ⟨by rw [HV.out]; rfl, Below.refl _ _⟩
end Go.Proofs.YthdgehcghklflaaGreatDoor

/- The ticket lock's text, as plain lists: what is assembled of it is its program; No walk stands here. -/
namespace Go.Proofs.YthdgehcghklflaaGreatDoor
set_option linter.unusedVariables false

theorem itoa_1 (n : Int) (h0 : 0 ≤ n) (h9 : n < 10) : Lib.itoa n = [(48 : UInt8) + UInt8.ofNat n.toNat] := by
  obtain rfl | rfl | rfl | rfl | rfl | rfl | rfl | rfl | rfl | rfl : n = 0 ∨ n = 1 ∨ n = 2 ∨ n = 3 ∨ n = 4 ∨ n = 5 ∨ n = 6 ∨ n = 7 ∨ n = 8 ∨ n = 9 := by omega
  all_goals
    unfold Lib.itoa
    rw [if_neg (by decide), Lib.decDigits, dif_pos (by decide)]
    decide
theorem tk_lines : insLine tkP ⟨20, 1, 0, 0, 0, 0, 1, 0⟩ = [102, 97, 100, 100, 32, 114, 49, 32, 48, 32, 114, 48, 32, 49] ∧ insLine tkP ⟨12, 0, 0, 0, 0, 0, 1, 0⟩ = [109, 97, 114, 107, 32, 49] ∧ insLine tkP ⟨21, 2, 0, 1, 0, 1, 0, -1⟩ = [97, 119, 97, 105, 116, 32, 114, 50, 32, 49, 32, 114, 48, 32, 101, 113, 32, 114, 49] ∧ insLine tkP ⟨12, 0, 0, 0, 0, 0, 2, 0⟩ = [109, 97, 114, 107, 32, 50] ∧ insLine tkP ⟨13, 0, 0, 0, 0, 0, 1, 0⟩ = [100, 111, 110, 101, 32, 49] ∧ insLine tkP ⟨3, 1, 1, 0, 0, 0, 1, 0⟩ = [97, 100, 100, 107, 32, 114, 49, 32, 114, 49, 32, 49] ∧ insLine tkP ⟨17, 0, 0, 1, 0, 1, 0, 0⟩ = [115, 116, 111, 114, 101, 32, 49, 32, 114, 48, 32, 114, 49] ∧ insLine tkP ⟨12, 0, 0, 0, 0, 0, 4, 0⟩ = [109, 97, 114, 107, 32, 52] ∧ insLine tkP ⟨13, 0, 0, 0, 0, 0, 2, 0⟩ = [100, 111, 110, 101, 32, 50] := by
  have d0 : Lib.itoa 0 = [48] := itoa_1 0 (by decide) (by decide)
  have d1 : Lib.itoa 1 = [49] := itoa_1 1 (by decide) (by decide)
  have d2 : Lib.itoa 2 = [50] := itoa_1 2 (by decide) (by decide)
  have d4 : Lib.itoa 4 = [52] := itoa_1 4 (by decide) (by decide)
  refine ⟨?_, ?_, ?_, ?_, ?_, ?_, ?_, ?_, ?_⟩
  all_goals
    unfold insLine
    rw [if_neg (by decide)]
    simp [textL, partsL, partL, hsL, nmL, getI, d0, d1, d2, d4]
theorem tk_print : printL tkP = tkText := by
  obtain ⟨h0, h1, h2, h3, h4, h5, h6, h7, h8⟩ := tk_lines
  have l0 : labsAt tkP 0 = [lockW] := by decide
  have l1 : labsAt tkP (0 + 1) = [] := by decide
  have l2 : labsAt tkP (0 + 1 + 1) = [] := by decide
  have l3 : labsAt tkP (0 + 1 + 1 + 1) = [] := by decide
  have l4 : labsAt tkP (0 + 1 + 1 + 1 + 1) = [] := by decide
  have l5 : labsAt tkP (0 + 1 + 1 + 1 + 1 + 1) = [unlockW] := by decide
  have l6 : labsAt tkP (0 + 1 + 1 + 1 + 1 + 1 + 1) = [] := by decide
  have l7 : labsAt tkP (0 + 1 + 1 + 1 + 1 + 1 + 1 + 1) = [] := by decide
  have l8 : labsAt tkP (0 + 1 + 1 + 1 + 1 + 1 + 1 + 1 + 1) = [] := by decide
  have e : linesFrom tkP tkP.l 0 = [lockW ++ [58], insLine tkP ⟨20, 1, 0, 0, 0, 0, 1, 0⟩, insLine tkP ⟨12, 0, 0, 0, 0, 0, 1, 0⟩, insLine tkP ⟨21, 2, 0, 1, 0, 1, 0, -1⟩, insLine tkP ⟨12, 0, 0, 0, 0, 0, 2, 0⟩, insLine tkP ⟨13, 0, 0, 0, 0, 0, 1, 0⟩, unlockW ++ [58], insLine tkP ⟨3, 1, 1, 0, 0, 0, 1, 0⟩, insLine tkP ⟨17, 0, 0, 1, 0, 1, 0, 0⟩, insLine tkP ⟨12, 0, 0, 0, 0, 0, 4, 0⟩, insLine tkP ⟨13, 0, 0, 0, 0, 0, 2, 0⟩] := by
    show linesFrom tkP tkL 0 = _
    unfold tkL
    simp only [linesFrom, l0, l1, l2, l3, l4, l5, l6, l7, l8, List.map_nil, List.map_cons, List.nil_append, List.cons_append]
  unfold printL
  rw [e, h0, h1, h2, h3, h4, h5, h6, h7, h8]
  rfl
theorem tk_right : prgB tkP = true := by decide
theorem tk_k32 : ∀ i ∈ tkP.l, 0 ≤ i.k ∧ i.k < 4294967296 := by decide
theorem tk_asm : asmL tkText = (tkP, 0, 0) := by
  rw [← tk_print]
  exact asm_print tkP tk_right tk_k32
end Go.Proofs.YthdgehcghklflaaGreatDoor

/- asm.isName, asm.hasPlace. -/
namespace Go.Proofs.YthdgehcghklflaaGreatDoor
open Go.ChangeShapes Go.WideShapes Go.ChangeAt Go.RowKit
set_option linter.unusedVariables false

theorem iterPos_of {w : World} {k : Nat} {s : ByteArray} {p : Nat} (h : w.heap[k]? = some (.stringIter s p)) : w.iterPos k = p := by simp [World.iterPos, h]

theorem rest_drop (s : List UInt8) (n : Nat) (h : n < s.length) : restB (s.drop n) n = (okAt n (s.getD n 0) && restB (s.drop (n + 1)) (n + 1)) := by
  rw [List.drop_eq_getElem_cons h, restB]
  simp [List.getD_eq_getElem?_getD, h]

/-- .. of a byte as a number. -/
def okN (n c : Nat) : Bool := (decide (97 ≤ c) && decide (c ≤ 122)) || ((decide (48 ≤ c) && decide (c ≤ 57)) && decide (n ≠ 0))
theorem okAt_n (n : Nat) (c : UInt8) : okAt n c = okN n c.toNat := rfl
theorem okN_yes {n c : Nat} (h : okN n c = true) : (97 ≤ c ∧ c ≤ 122) ∨ (48 ≤ c ∧ c ≤ 57 ∧ n ≠ 0) := by
  unfold okN at h
  simp only [Bool.or_eq_true, Bool.and_eq_true, decide_eq_true_eq] at h
  omega
theorem okN_no {n c : Nat} (h : okN n c = false) : c < 48 ∨ (48 ≤ c ∧ c ≤ 57 ∧ n = 0) ∨ (57 < c ∧ c < 97) ∨ 122 < c := by
  unfold okN at h
  simp only [Bool.or_eq_false_iff, Bool.and_eq_false_iff, decide_eq_false_iff_not] at h
  omega

set_option maxHeartbeats 1000000 in
theorem cIsName (s : List UInt8) (w : World) :
    Calls Tryz.prog 96 #[bs s] w fun e w' => e = .returned (.bool (nameB s)) ∧ Below w.heap.size w w' := by
  have hsz : (⟨s.toArray⟩ : ByteArray).size = s.length := by show s.toArray.size = _; simp
  unfold bs
  by_cases h0 : s = []
  · subst h0
    go_enter Tryz.func96, Tryz.ntmps96
    go_wp2
    go_ret
    exact ⟨rfl, Below.refl _ _⟩
  by_cases h1 : 16 < s.length
  · have e : nameB s = false := by
      unfold nameB
      have : decide (s.length ≤ 16) = false := by simp; omega
      simp [this]
    rw [e]
    have q0 : (s == []) = false := by simpa using h0
    have q1 : (16 : Int) < s.length := by omega
    go_enter Tryz.func96, Tryz.ntmps96
    go_wp2
    go_ret
    exact ⟨rfl, Below.refl _ _⟩
  have q0 : (s == []) = false := by simpa using h0
  have q1 : ¬ (16 : Int) < s.length := by omega
  have hl : 1 ≤ s.length := by cases s with
    | nil => exact absurd rfl h0
    | cons => simp
  have HN := Lib.hid (name_rest s hl (by omega))
  generalize nameB s = r at *
  go_enter Tryz.func96, Tryz.ntmps96
  go_wp2
  go_loopw [2] (fun v wr => ∃ n : Nat, v = .bool false ∧ n ≤ s.length ∧ wr.heap[w.heap.size]? = some (.stringIter ⟨s.toArray⟩ n) ∧ Below w.heap.size w wr ∧ Hid (r = restB (s.drop n) n))
    (fun v wr => s.length - wr.iterPos w.heap.size)
  case atStart => exact ⟨0, rfl, by omega, World.iter_heap w _ 0, (Below.refl _ _).alloc (Nat.le_refl _) _, Lib.hid (by simpa using HN.out)⟩
  case round =>
    obtain ⟨n, rfl, hn, hit, hb, HR⟩ := hrel
    have hpos := iterPos_of hit
    by_cases hp : n < s.length
    · have hnx : ∀ ty, (Instr.next (.pointer (some ⟨w.heap.size, 0, none⟩)) true ty).run Tryz.prog wr = _ := fun ty => Lib.run_next_any_at wr w.heap.size ⟨s.toArray⟩ n ty hit (by omega)
      have hg : (⟨s.toArray⟩ : ByteArray)[n]'(by omega) = s.getD n 0 := by
        simp [ByteArray.getElem_eq_getElem_data, hp]
      have HD := Lib.hid (rest_drop s n hp)
      have HK : Hid (okAt n (s.getD n 0) = okN n (s.getD n 0).toNat) := Lib.hid (okAt_n _ _)
      have hit2 := Lib.iterAt_heap wr w.heap.size ⟨s.toArray⟩ n (n + (Utf8.decode ⟨s.toArray⟩ n).2) hit
      have hb2 := Lib.below_iterAt hb (k := w.heap.size) (Nat.le_refl _) ⟨s.toArray⟩ (n + (Utf8.decode ⟨s.toArray⟩ n).2)
      by_cases hc : (s.getD n 0).toNat < 128
      · have hd := decode_ascii ⟨s.toArray⟩ n (by omega) (by rw [hg]; exact hc)
        rw [hg] at hd
        rw [hd] at hnx hit2 hb2
        simp only at hnx hit2 hb2
        clear hd hg hc
        generalize wr.iterAt w.heap.size ⟨s.toArray⟩ (n + 1) = W1 at *
        rw [HK.out] at HD
        clear HK
        generalize (s.getD n 0).toNat = c at *
        clear hit
        cases ho : okN n c with
        | true =>
          have HR2 : Hid (r = restB (s.drop (n + 1)) (n + 1)) := Lib.hid (by rw [HR.out, HD.out, ho]; simp)
          rcases okN_yes ho with ⟨k1, k2⟩ | ⟨k1, k2, k3⟩
          · have z1 : (97 : Int) ≤ (c : Int) := by omega
            have z2 : (c : Int) ≤ 122 := by omega
            clear HR HD ho k1 k2
            go_wp2
            all_goals (
              go_roundw
              case rel => exact ⟨n + 1, rfl, by omega, hit2, hb2, HR2⟩
              case measure => rw [iterPos_of hit2, hpos]; omega)
          · have z1 : ¬ (97 : Int) ≤ (c : Int) := by omega
            have z2 : (48 : Int) ≤ (c : Int) := by omega
            have z3 : (c : Int) ≤ 57 := by omega
            have z4 : ((n : Int) == 0) = false := by simp; omega
            clear HR HD ho k1 k2
            go_wp2
            all_goals (
              go_roundw
              case rel => exact ⟨n + 1, rfl, by omega, hit2, hb2, HR2⟩
              case measure => rw [iterPos_of hit2, hpos]; omega)
        | false =>
          have HR2 : Hid (r = false) := Lib.hid (by rw [HR.out, HD.out, ho]; simp)
          rcases okN_no ho with k1 | ⟨k1, k2, k3⟩ | ⟨k1, k2⟩ | k1
          · have z1 : ¬ (97 : Int) ≤ (c : Int) := by omega
            have z2 : ¬ (48 : Int) ≤ (c : Int) := by omega
            clear HR HD ho k1
            go_wp2
            go_ret
            exact ⟨by rw [HR2.out]; rfl, hb2⟩
          · have z1 : ¬ (97 : Int) ≤ (c : Int) := by omega
            have z2 : (48 : Int) ≤ (c : Int) := by omega
            have z3 : (c : Int) ≤ 57 := by omega
            have z4 : ((n : Int) == 0) = true := by simp; omega
            clear HR HD ho k1 k2
            go_wp2
            go_ret
            exact ⟨by rw [HR2.out]; rfl, hb2⟩
          · have z1 : ¬ (97 : Int) ≤ (c : Int) := by omega
            have z2 : (48 : Int) ≤ (c : Int) := by omega
            have z3 : ¬ (c : Int) ≤ 57 := by omega
            clear HR HD ho k1 k2
            go_wp2
            go_ret
            exact ⟨by rw [HR2.out]; rfl, hb2⟩
          · have z1 : (97 : Int) ≤ (c : Int) := by omega
            have z2 : ¬ (c : Int) ≤ 122 := by omega
            have z3 : (48 : Int) ≤ (c : Int) := by omega
            have z4 : ¬ (c : Int) ≤ 57 := by omega
            clear HR HD ho k1
            go_wp2
            go_ret
            exact ⟨by rw [HR2.out]; rfl, hb2⟩
      · have hd := (decode_high ⟨s.toArray⟩ n (by omega) (by rw [hg]; omega)).1
        have HR2 : Hid (r = false) := Lib.hid (by
          rw [HR.out, HD.out, HK.out]
          have : okN n (s.getD n 0).toNat = false := by
            cases ho : okN n (s.getD n 0).toNat with
            | false => rfl
            | true => rcases okN_yes ho with ⟨k1, k2⟩ | ⟨k1, k2, k3⟩ <;> omega
          rw [this]; simp)
        generalize (Utf8.decode ⟨s.toArray⟩ n).1 = c at *
        generalize wr.iterAt w.heap.size ⟨s.toArray⟩ (n + (Utf8.decode ⟨s.toArray⟩ n).2) = W1 at *
        have z1 : (97 : Int) ≤ (c : Int) := by omega
        have z2 : ¬ (c : Int) ≤ 122 := by omega
        have z3 : (48 : Int) ≤ (c : Int) := by omega
        have z4 : ¬ (c : Int) ≤ 57 := by omega
        clear HR HD HK hd hc hg hit2 hit
        go_wp2
        go_ret
        exact ⟨by rw [HR2.out]; rfl, hb2⟩
    · have hnx : ∀ ty, (Instr.next (.pointer (some ⟨w.heap.size, 0, none⟩)) true ty).run Tryz.prog wr = _ := fun ty => Lib.run_next_end_at wr w.heap.size ⟨s.toArray⟩ n ty hit (by omega)
      have HR2 : Hid (r = true) := Lib.hid (by rw [HR.out, List.drop_of_length_le (by omega)]; rfl)
      clear HR hit
      go_wp2
      go_ret
      exact ⟨by rw [HR2.out]; rfl, hb⟩

theorem place_cases (i : Ins) : (placeB i = true ∧ (i.op = 8 ∨ i.op = 9 ∨ i.op = 10)) ∨ (i.op = 21 ∧ placeB i = decide (i.pl ≠ -1)) ∨ (placeB i = false ∧ i.op ≠ 8 ∧ i.op ≠ 9 ∧ i.op ≠ 10 ∧ i.op ≠ 21) := by
  unfold placeB
  by_cases h : i.op = 8 ∨ i.op = 9 ∨ i.op = 10
  · exact .inl ⟨by simp [h], h⟩
  by_cases h2 : i.op = 21
  · exact .inr (.inl ⟨h2, by simp [h2]⟩)
  · exact .inr (.inr ⟨by simp [h, h2], by omega, by omega, by omega, h2⟩)

theorem cHasPlace (i : Ins) (w : World) :
    Calls Tryz.prog 141 #[iv i] w fun e w' => e = .returned (.bool (placeB i)) ∧ Below w.heap.size w w' := by
  have hb : ∀ cs : Array Value, Below w.heap.size w (w.alloc (.cells cs 119)) := fun cs => (Below.refl _ _).alloc (Nat.le_refl _) _
  have HP := place_cases i
  generalize placeB i = r at *
  obtain ⟨op, d, s, t, u, a, k, pl⟩ := i
  simp only at HP
  unfold iv
  rcases HP with ⟨rfl, rfl | rfl | rfl⟩ | ⟨rfl, h⟩ | ⟨rfl, h1, h2, h3, h4⟩
  · go_enter Tryz.func141, Tryz.ntmps141
    go_wp2
    go_ret
    exact ⟨rfl, hb _⟩
  · go_enter Tryz.func141, Tryz.ntmps141
    go_wp2
    go_ret
    exact ⟨rfl, hb _⟩
  · go_enter Tryz.func141, Tryz.ntmps141
    go_wp2
    go_ret
    exact ⟨rfl, hb _⟩
  · have HH := Lib.hid h
    clear h
    go_enter Tryz.func141, Tryz.ntmps141
    go_wp2
    go_ret
    refine ⟨?_, hb _⟩
    rw [HH.out]
    congr 2
    simp [bne]
    by_cases e : pl = -1 <;> simp [e]
  · have e1 : (op == 8) = false := by simpa using h1
    have e2 : (op == 9) = false := by simpa using h2
    have e3 : (op == 10) = false := by simpa using h3
    have e4 : (op == 21) = false := by simpa using h4
    go_enter Tryz.func141, Tryz.ntmps141
    go_wp2
    go_ret
    exact ⟨rfl, hb _⟩
end Go.Proofs.YthdgehcghklflaaGreatDoor

/- The lines of a text, each with its end, and strings.Lines. -/
namespace Go.Proofs.YthdgehcghklflaaGreatDoor
open Go.ChangeShapes Go.WideShapes Go.ChangeAt Go.RowKit Go.Shelf
attribute [local go_sem] Oper.semAt_some
set_option linter.unusedVariables false

theorem cNumbered (s : List UInt8) (w : World) :
    Calls Tryz.prog 59 #[bs s] w fun e w' => e = .returned (.func (.func 93) #[] #[.pointer (some ⟨w.heap.size, 0, none⟩)]) ∧ w' = w.alloc (.cells #[bs s] 9) := by
  unfold bs
  go_enter Tryz.func59, Tryz.ntmps59
  go_wp2
  go_ret
  exact ⟨rfl, rfl⟩

set_option maxHeartbeats 1000000 in
/-- The lines with their numbers, from 1 on. -/
theorem it_numbered (text : List UInt8) (b l : Nat) (W1 : World) (hb : Bk W1 b 9 #[bs text]) (hlen : text.length < 1000000000) :
    Iter Tryz.prog 93 #[.pointer (some ⟨b, 0, none⟩)] (fun k => #[.int .i64 ((k : Int) + 1), bs (lineAt text k)]) (linesL text).length l W1 (fun x => W1.heap.size ≤ x ∧ x < W1.heap.size + 5) := by
  intro J Jx hJ hJx hY h0
  have hc0 : W1.cell? ⟨b, 0, none⟩ = some (.string ⟨text.toArray⟩) := hb.cell 0
  have HL := Lib.hid (fun W => callsIn_wide (n := 0) |>.2 (lLines text W))
  refine callsIn_of_wp_marks Tryz.func93 rfl trivial ?_ rfl
  simp only [Tryz.ntmps93, List.size_toArray, List.length_cons, List.length_nil, Nat.reduceAdd, Nat.reduceSub, Array.replicate_succ, Array.replicate_zero, List.push_toArray, List.append_toArray, List.nil_append, List.cons_append]
  have y2 := Bk.alloc (Bk.made W1 192 #[.func (.yield l) #[] #[]]) (.cells #[.int .i64 0] 3)
  have n2 := Bk.made (W1.alloc (.cells #[.func (.yield l) #[] #[]] 192)) 3 #[.int .i64 0]
  have t2 := Bk.alloc (Bk.alloc hb (.cells #[.func (.yield l) #[] #[]] 192)) (.cells #[.int .i64 0] 3)
  have w2 : Within W1 ((W1.alloc (.cells #[.func (.yield l) #[] #[]] 192)).alloc (.cells #[.int .i64 0] 3)) (fun _ => False) := ((Within.refl _ _).alloc _).alloc _
  have s2 : ((W1.alloc (.cells #[.func (.yield l) #[] #[]] 192)).alloc (.cells #[.int .i64 0] 3)).heap.size = W1.heap.size + 2 := by simp
  rw [World.size_alloc] at n2
  have hc2 : ((W1.alloc (.cells #[.func (.yield l) #[] #[]] 192)).alloc (.cells #[.int .i64 0] 3)).cell? ⟨b, 0, none⟩ = some (.string ⟨text.toArray⟩) := t2.cell 0
  gi_wp2
  generalize (W1.alloc (.cells #[.func (.yield l) #[] #[]] 192)).alloc (.cells #[.int .i64 0] 3) = W2 at *
  refine ⟨trivial, rfl, ?_⟩
  refine (HL.out _).mono ?_
  rintro e W3 ⟨rfl, rfl⟩
  have y3 := y2.alloc (.cells #[bs text] 9)
  have n3 := n2.alloc (.cells #[bs text] 9)
  have t3 := Bk.made W2 9 #[bs text]
  have s3 : (W2.alloc (.cells #[bs text] 9)).heap.size = W1.heap.size + 3 := by simp [s2]
  have w3 : Within W1 (W2.alloc (.cells #[bs text] 9)) (fun _ => False) := w2.alloc _
  rw [s2] at t3 ⊢
  generalize W2.alloc (.cells #[bs text] 9) = W3 at *
  clear hc2 t2 n2 y2 w2 s2 W2 HL hc0
  gi_wp2
  have e0 : W3.heap.size = W1.heap.size + 3 := s3
  refine wpIn_range (gf := 136) (lb := #[.pointer (some ⟨W1.heap.size + 2, 0, none⟩)]) rfl (enters_of Tryz.func136 (by kernel_rfl) rfl)
    (encs := fun k => #[bs (lineAt text k)]) (N := (linesL text).length) (T := fun x => x = W1.heap.size + 2) (fun _ => rfl) (by omega) (by omega)
    (fun W4 hb4 hz4 => it_lines text _ _ W4 ((hb4.block _ (by omega)).trans t3) hlen)
    (fun k W => J k W ∧ Bk W W1.heap.size 192 #[.func (.yield l) #[] #[]] ∧ Bk W (W1.heap.size + 1) 3 #[.int .i64 k])
    (fun c W => c = .ret ∧ Jx W) ?calm ?calmx ⟨hJ 0 _ _ h0 (w3.wide (by simp)), y3, n3⟩
    (fun k => { tmps := #[.func (.yield l) #[] #[], .pointer (some ⟨b, 0, none⟩), .pointer (some ⟨W1.heap.size, 0, none⟩), .pointer (some ⟨W1.heap.size + 1, 0, none⟩), .string ⟨(lineAt text k).toArray⟩, .string ⟨text.toArray⟩,
      .func (.func 136) #[] #[.pointer (some ⟨W1.heap.size + 2, 0, none⟩)], .string ⟨(lineAt text k).toArray⟩, undef, undef, undef, undef, undef, undef, undef], defers := [] }) ?assign ?body ?done ?stop
  case calm =>
    rintro k A B ⟨j, y, n⟩ hw
    exact ⟨hJ k A B j (hw.wide (by rintro i (rfl | rfl | rfl) _ <;> omega)), y.within hw (by omega), n.within hw (by omega)⟩
  case calmx =>
    rintro c A B ⟨rfl, j⟩ hw
    exact ⟨rfl, hJx A B j (hw.wide (by rintro i (rfl | rfl | rfl) _ <;> omega))⟩
  case assign =>
    intro l2 k W K hK
    unfold bs
    gi_wp2
    exact hK
  case body =>
    rintro l2 k W hk ⟨hj, hy, hn⟩ hT
    have hkl : k < 1000000000 := Nat.lt_of_lt_of_le hk (Nat.le_trans (lines_len text) (Nat.le_of_lt hlen))
    have hwr : wrap64 ((k : Int) + 1) = (k : Int) + 1 := by unfold wrap64; omega
    have cn : W.cell? ⟨W1.heap.size + 1, 0, none⟩ = some (.int .i64 k) := hn.cell 0
    have fn := hn.free 0
    have w1 : Within W (W.setCell ⟨W1.heap.size + 1, 0, none⟩ (.int .i64 ((k : Int) + 1))) (fun x => x = W1.heap.size + 1) := (Within.refl _ _).put _ 0 _ (.inl rfl)
    have n1 : Bk (W.setCell ⟨W1.heap.size + 1, 0, none⟩ (.int .i64 ((k : Int) + 1))) (W1.heap.size + 1) 3 #[.int .i64 ((k : Int) + 1)] := hn.put 0 _
    have y1 := hy.within w1 (by omega)
    have hj1 := hJ k _ _ hj (w1.wide (by rintro i rfl _; omega))
    obtain ⟨fn2, tmps, assign, body, hyy, hR⟩ := hY k _ hk hj1 (by intro x hx; have := w1.size; have := hT (W3.heap.size + 1) (.inr (.inl rfl)); omega)
    unfold bs at hyy
    have cy : (W.setCell ⟨W1.heap.size + 1, 0, none⟩ (.int .i64 ((k : Int) + 1))).cell? ⟨W1.heap.size, 0, none⟩ = some (.func (.yield l) #[] #[]) := y1.cell 0
    have cn1 : (W.setCell ⟨W1.heap.size + 1, 0, none⟩ (.int .i64 ((k : Int) + 1))).cell? ⟨W1.heap.size + 1, 0, none⟩ = some (.int .i64 ((k : Int) + 1)) := n1.cell 0
    gi_wp2
    refine ⟨rfl, RoundIn.mono (F := Fence.wide) hR ?_⟩
    rintro e W5 ⟨hh, hQ⟩
    have hT5 : Held (fun x => x = W3.heap.size ∨ x = W3.heap.size + 1 ∨ x = W1.heap.size + 2) W W5 := by
      refine ⟨Nat.le_trans w1.size hh.1, ?_⟩
      rintro x (rfl | rfl | rfl)
      · exact (hh.2 _ ⟨by omega, by omega⟩).trans (w1.block _ (hT _ (.inl rfl)) (by omega))
      · exact (hh.2 _ ⟨by omega, by omega⟩).trans (w1.block _ (hT _ (.inr (.inl rfl))) (by omega))
      · exact (hh.2 _ ⟨by omega, by omega⟩).trans (w1.block _ (hT _ (.inr (.inr rfl))) (by omega))
    rcases hQ with ⟨rfl, hJ5⟩ | ⟨rfl, hJx5⟩
    · gi_wp2
      exact ⟨hT5, hJ5, (hh.2 _ ⟨by omega, by omega⟩).trans y1, (hh.2 _ ⟨by omega, by omega⟩).trans n1⟩
    · gi_wp2
      exact ⟨hT5, rfl, hJx5⟩
  case done =>
    rintro W ⟨hj, _, _⟩ hd
    gi_wp2
    refine ⟨by simp, .inl ⟨_, _, rfl, run_takeDeferred hd, ?_⟩⟩
    exact ⟨_, results_none rfl _ _ _, ⟨_, rfl⟩, .inl (hJ _ _ _ hj (within_putObj _ _ _ _ ⟨by omega, by omega⟩))⟩
  case stop =>
    rintro c W ⟨rfl, hj⟩ hd
    gi_wp2
    refine ⟨by simp, .inl ⟨_, _, rfl, run_takeDeferred hd, ?_⟩⟩
    exact ⟨_, results_none rfl _ _ _, ⟨_, rfl⟩, .inr (hJx _ _ hj (within_putObj _ _ _ _ ⟨by omega, by omega⟩))⟩
end Go.Proofs.YthdgehcghklflaaGreatDoor
