/- AsmM, Same, AsmK, SpM, TkP, AsmA, AsmI. -/
import Derived.Test.YthdgehcghklflaaDoorKMem
import Derived.Test.YthdgehcghklflaaDoorKPrgM
import Derived.Test.YthdgehcghklflaaDoorKInstP
import Derived.Deep.QuietTactic
import Derived.Deep.Cut
import Derived.BigQuiet
import Derived.ProofKit
import Derived.OpenShut
import Derived.Deep.Fields
import Derived.Deep.Slices
import Derived.ChangeSame
import Derived.Lib.SmallJoins
import Derived.Test.YthdgehcghklflaaDoorTie
import Derived.Test.YthdgehcghklflaaDoorCards
import Derived.Lay
import Derived.Handed
import Derived.PinnedBridge
import Derived.SevenTiedAt
import Derived.Shelf.Vars
import Derived.Lib.LaidTab
import Derived.Stop.LaidErr
import Derived.Deep.Onto
import Derived.Laws.RangeAny
import Derived.Lib.OthersKept
import Derived.BigRegionIn
/- AsmL, AsmM, AsmN, AsmO, AsmP, AsmQ, AsmR, one behind the other. -/
/- Names and places of layer 7, as plain lists. No walk stands here. -/
namespace Go.Proofs.YthdgehcghklflaaDoor
set_option linter.unusedVariables false

def lowB (c : UInt8) : Bool := decide (97 ≤ c.toNat) && decide (c.toNat ≤ 122)
def digB (c : UInt8) : Bool := decide (48 ≤ c.toNat) && decide (c.toNat ≤ 57)
/-- A name. -/
def nameB (s : List UInt8) : Bool := decide (1 ≤ s.length) && (decide (s.length ≤ 16) && (lowB (s.getD 0 0) && s.all fun c => lowB c || digB c))
/-- It goes to a place. -/
def goesB (i : Ins) : Bool := (decide (8 ≤ i.op) && decide (i.op ≤ 10)) || (decide (i.op = 21) && decide (0 ≤ i.pl))
/-- .. as the program asks it. -/
def placeB (i : Ins) : Bool := decide (i.op = 8 ∨ i.op = 9 ∨ i.op = 10) || (decide (i.op = 21) && decide (i.pl ≠ -1))

/-- What is asked of byte c at place n of a name. -/
def okAt (n : Nat) (c : UInt8) : Bool := lowB c || (digB c && decide (n ≠ 0))
/-- From place n on. -/
def restB : List UInt8 → Nat → Bool
  | [], _ => true
  | c :: r, n => okAt n c && restB r (n + 1)
theorem rest_all : ∀ (s : List UInt8) (n : Nat), 0 < n → restB s n = s.all fun c => lowB c || digB c
  | [], _, _ => rfl
  | c :: r, n, h => by
    have hn : decide (n ≠ 0) = true := by simpa using Nat.ne_of_gt h
    rw [restB, rest_all r (n + 1) (by omega), List.all_cons, okAt, hn, Bool.and_true]
theorem name_rest (s : List UInt8) (h0 : 1 ≤ s.length) (h1 : s.length ≤ 16) : nameB s = restB s 0 := by
  cases s with
  | nil => simp at h0
  | cons c r =>
    unfold nameB
    rw [restB, rest_all r 1 (by omega)]
    simp only [h0, h1, decide_true, Bool.true_and, List.getD_cons_zero, List.all_cons, okAt]
    cases lowB c <;> simp
end Go.Proofs.YthdgehcghklflaaDoor

/- Programs as plain lists: names, lines, what is assembled of a text, and a program's own text. No walk stands here. -/
namespace Go.Proofs.YthdgehcghklflaaDoor
set_option linter.unusedVariables false

theorem draftR_k (ws : List (List UInt8)) : 0 ≤ (draftR ws).k ∧ (draftR ws).k < 4294967296 := by
  have hk : 0 ≤ kOf ws.tail ∧ kOf ws.tail < 4294967296 := by unfold kOf; split <;> omega
  unfold draftR finI
  generalize kOf ws.tail = k at *
  repeat' split
  all_goals (simp only; omega)

/-- The instruction that a text is; none: it is none. -/
def prs (s : List UInt8) : Option Ins := if parseRB s = true then some (draftR (wordsL s)) else none
theorem prs_iff (s : List UInt8) (i : Ins) : prs s = some i ↔ rightB i 1073741824 = true ∧ 0 ≤ i.k ∧ i.k < 4294967296 ∧ textL i = s := by
  unfold prs
  constructor
  · intro h
    split at h
    · rename_i hp
      injection h with h
      subst h
      have hp2 := hp
      unfold parseRB at hp2
      simp only [Bool.and_eq_true, decide_eq_true_eq] at hp2
      exact ⟨hp2.2.1, (draftR_k _).1, (draftR_k _).2, hp2.2.2⟩
    · cases h
  · rintro ⟨hr, k0, k1, rfl⟩
    rw [if_pos (parseR_text i hr k0 k1), (draftR_text i hr k0 k1).2]

def lastW (s : List UInt8) : List UInt8 := (wordsL s).getLastD []
def headW (s : List UInt8) : List UInt8 := s.take (s.length - (lastW s).length)

/-- An instruction, the name of its place; none: it is none. -/
def lineL (s : List UInt8) : Option (Ins × List UInt8) :=
  match prs (headW s ++ [48]) with
  | some i => if goesB i = true ∧ nameB (lastW s) = true then some (i, lastW s)
    else match prs s with
      | some j => if goesB j = true then none else some (j, [])
      | none => none
  | none => match prs s with
    | some j => if goesB j = true then none else some (j, [])
    | none => none

/-- A label's line. -/
def lbB (s : List UInt8) : Bool := !s.isEmpty && (decide (s.getLastD 0 = 58) && nameB s.dropLast)

/-- The pieces of a text between its ends of line. -/
def piecesL : List UInt8 → List (List UInt8)
  | [] => [[]]
  | c :: r => if c = 10 then [] :: piecesL r else ahead c (piecesL r)

/-- The first turn: labels with their places, instructions with the names of their places and their lines; or a line and an error. -/
def asm1 : List (List UInt8) → Int → List (List UInt8 × Int) → List (Ins × List UInt8 × Int) → (Int × Int) ⊕ (List (List UInt8 × Int) × List (Ins × List UInt8 × Int))
  | [], _, ls, rs => .inr (ls, rs)
  | s :: more, n, ls, rs =>
    if lbB s = true then
      if (ls.any fun x => x.1 == s.dropLast) = true then .inl (n, 2) else asm1 more (n + 1) (ls ++ [(s.dropLast, (rs.length : Int))]) rs
    else match lineL s with
      | none => .inl (n, 8)
      | some (i, nm) => if 64 ≤ rs.length then .inl (n, 9) else asm1 more (n + 1) ls (rs ++ [(i, nm, n)])

/-- A label's place, less than n; -1: none. -/
def findL (ls : List (List UInt8 × Int)) (s : List UInt8) (n : Int) : Int :=
  match ls.find? fun x => x.1 == s && decide (x.2 < n) with
  | some x => x.2
  | none => -1

/-- The second turn. -/
def asm2 (ls : List (List UInt8 × Int)) (n : Int) : List (Ins × List UInt8 × Int) → (Int × Int) ⊕ List Ins
  | [] => .inr []
  | (i, nm, row) :: more =>
    if nm = [] then
      match asm2 ls n more with
      | .inl e => .inl e
      | .inr l => .inr (i :: l)
    else if findL ls nm n < 0 then .inl (row, 10)
    else match asm2 ls n more with
      | .inl e => .inl e
      | .inr l => .inr ({ i with pl := findL ls nm n } :: l)

def lockW : List UInt8 := [108, 111, 99, 107]
def unlockW : List UInt8 := [117, 110, 108, 111, 99, 107]

/-- What is assembled of a text: the program, the line, the error. -/
def asmL (text : List UInt8) : Prg × Int × Int :=
  match asm1 (piecesL text).dropLast 1 [] [] with
  | .inl (n, e) => (Prg.zero, n, e)
  | .inr (ls, rs) =>
    if (piecesL text).getLastD [] ≠ [] then (Prg.zero, ((piecesL text).length : Int), 8)
    else match asm2 ls rs.length rs with
      | .inl (n, e) => (Prg.zero, n, e)
      | .inr l => if findL ls lockW rs.length < 0 ∨ findL ls unlockW rs.length < 0 then (Prg.zero, 0, 10)
        else (⟨l, findL ls lockW rs.length, findL ls unlockW rs.length⟩, 0, 0)

/-- A place's name. -/
def labelL (c : Prg) (at_ : Int) : List UInt8 := if at_ = c.lo then lockW else if at_ = c.un then unlockW else 108 :: Lib.itoa at_

/-- Some instruction goes there. -/
def wantB (c : Prg) (k : Int) : Bool := c.l.any fun x => goesB x && decide (x.pl = k)

/-- The text of an instruction that goes to a place, up to that. -/
def headI (i : Ins) : List UInt8 := nmL i.op ++ partsL i (hsL i.op).dropLast ++ (if i.op = 21 then [32, 101, 108, 115, 101, 32] else [32])

/-- An instruction's line. -/
def insLine (c : Prg) (i : Ins) : List UInt8 := if goesB i = true then headI i ++ labelL c i.pl else textL i

/-- The labels ahead of an instruction. -/
def labsAt (c : Prg) (k : Int) : List (List UInt8) :=
  (if k = c.lo then [lockW] else []) ++ ((if k = c.un then [unlockW] else []) ++ (if wantB c k = true ∧ k ≠ c.lo ∧ k ≠ c.un then [labelL c k] else []))

/-- The lines of a program's own text, from place k on. -/
def linesFrom (c : Prg) : List Ins → Int → List (List UInt8)
  | [], _ => []
  | i :: more, k => (labsAt c k).map (fun s => s ++ [58]) ++ insLine c i :: linesFrom c more (k + 1)

/-- A program's own text. -/
def printL (c : Prg) : List UInt8 := (linesFrom c c.l 0).flatMap fun s => s ++ [10]

-- words
theorem ahead_app (c : UInt8) (a b : List (List UInt8)) (h : a ≠ []) : ahead c (a ++ b) = ahead c a ++ b := by
  cases a with
  | nil => exact absurd rfl h
  | cons x y => rfl
theorem wordsL_ne (s : List UInt8) : wordsL s ≠ [] := by
  have := wordsL_pos s
  intro h
  rw [h] at this
  simp at this
theorem wordsL_cat : ∀ (a b : List UInt8), wordsL (a ++ 32 :: b) = wordsL a ++ wordsL b
  | [], b => by simp [wordsL]
  | c :: a, b => by
    have ih := wordsL_cat a b
    show wordsL (c :: (a ++ 32 :: b)) = _
    by_cases hc : c = 32
    · rw [wordsL, if_pos hc, ih, wordsL, if_pos hc]; rfl
    · rw [wordsL, if_neg hc, ih, wordsL, if_neg hc, ahead_app _ _ _ (wordsL_ne a)]
theorem lastW_cat (a b : List UInt8) (h : Bf b) : lastW (a ++ 32 :: b) = b := by
  unfold lastW
  rw [wordsL_cat, wordsL_one b h]
  simp
theorem headW_cat (a b : List UInt8) (h : Bf b) : headW (a ++ 32 :: b) = a ++ [32] := by
  unfold headW
  rw [lastW_cat a b h]
  have e : (a ++ 32 :: b).length - b.length = (a ++ [32]).length := by simp; omega
  have e2 : a ++ 32 :: b = (a ++ [32]) ++ b := by simp
  rw [e, e2, List.take_left]

theorem name_bf {s : List UInt8} (h : nameB s = true) : Bf s := by
  unfold nameB at h
  simp only [Bool.and_eq_true] at h
  intro c hc e
  have := List.all_eq_true.1 h.2.2.2 c hc
  subst e
  revert this
  decide
end Go.Proofs.YthdgehcghklflaaDoor

/- Lines: an instruction's line is that instruction, with its place's name. No walk stands here. -/
namespace Go.Proofs.YthdgehcghklflaaDoor
set_option linter.unusedVariables false

-- the name of an op
theorem op_of_name (op : Int) (h : hsL op ≠ []) : opTo (nmL op) 23 = op := by
  rcases op_cases op with rfl | rfl | rfl | rfl | rfl | rfl | rfl | rfl | rfl | rfl | rfl | rfl | rfl | rfl | rfl | rfl | rfl | rfl | rfl | rfl | rfl | hn
  all_goals first | decide | exact absurd (hs_none hn).1 h
theorem right_hs {i : Ins} {p : Int} (h : rightB i p = true) : hsL i.op ≠ [] := by
  unfold rightB at h
  simp only [Bool.and_eq_true, Bool.not_eq_true', List.isEmpty_eq_false_iff] at h
  exact h.1
theorem nm_inj {i j : Ins} {p q : Int} (hi : rightB i p = true) (hj : rightB j q = true) (h : nmL i.op = nmL j.op) : i.op = j.op := by
  rw [← op_of_name i.op (right_hs hi), h, op_of_name j.op (right_hs hj)]
theorem nm_bf (op : Int) : Bf (nmL op) := by
  rcases op_cases op with rfl | rfl | rfl | rfl | rfl | rfl | rfl | rfl | rfl | rfl | rfl | rfl | rfl | rfl | rfl | rfl | rfl | rfl | rfl | rfl | rfl | hn
  all_goals first | (unfold Bf; decide) | (rw [(hs_none hn).2]; unfold Bf; simp)

/-- Right with few places: right with more. -/
theorem right_more {i : Ins} {p q : Int} (hq : p ≤ q) (h : rightB i p = true) : rightB i q = true := by
  unfold rightB at *
  simp only [Bool.and_eq_true, List.all_eq_true] at *
  refine ⟨h.1, fun c hc => ?_, h.2.2⟩
  have := h.2.1 c hc
  unfold inB endI at *
  simp only [Bool.and_eq_true, decide_eq_true_eq] at *
  refine ⟨this.1, ?_⟩
  have h2 := this.2
  generalize (c.toNat : Int) = x at *
  generalize getI i x = y at *
  repeat' split at h2
  all_goals first | (simp_all; done) | (simp_all; omega)

theorem goes_cases {i : Ins} (h : goesB i = true) : i.op = 8 ∨ i.op = 9 ∨ i.op = 10 ∨ (i.op = 21 ∧ 0 ≤ i.pl) := by
  unfold goesB at h
  simp only [Bool.or_eq_true, Bool.and_eq_true, decide_eq_true_eq] at h
  omega
/-- The place of a right instruction that goes to one. -/
theorem goes_pl {i : Ins} {p : Int} (hr : rightB i p = true) (h : goesB i = true) : 0 ≤ i.pl ∧ i.pl < p := by
  obtain ⟨op, d, s, t, u, a, k, pl⟩ := i
  unfold rightB at hr
  rcases goes_cases h with e | e | e | ⟨e, e2⟩ <;> (simp only at e; subst e; simp [hsL, inB, lowI, endI, getI] at hr; simp only at *)
  · exact hr.1.2.2
  · exact hr.1.2.2
  · exact hr.1
  · have := hr.1.2.2.2.2.2.2
    split at this <;> omega

theorem headI_pl (i : Ins) (h : goesB i = true) (p : Int) : headI { i with pl := p } = headI i := by
  obtain ⟨op, d, s, t, u, a, k, pl⟩ := i
  rcases goes_cases h with e | e | e | ⟨e, e2⟩ <;> (simp only at e; subst e; simp [headI, hsL, partsL, partL, getI])
/-- The text of an instruction that goes to a place. -/
theorem text_goes (i : Ins) (h : goesB i = true) (h0 : 0 ≤ i.pl) : textL i = headI i ++ Lib.itoa i.pl := by
  obtain ⟨op, d, s, t, u, a, k, pl⟩ := i
  rcases goes_cases h with e | e | e | ⟨e, e2⟩
  · simp only at e; subst e; simp [textL, headI, hsL, partsL, partL, getI]
  · simp only at e; subst e; simp [textL, headI, hsL, partsL, partL, getI]
  · simp only at e; subst e; simp [textL, headI, hsL, partsL, partL, getI]
  · simp only at e e2
    subst e
    have hne : pl ≠ -1 := by omega
    simp [textL, headI, hsL, partsL, partL, getI, hne]
theorem headI_end (i : Ins) : ∃ a, headI i = a ++ [32] := by
  unfold headI
  split
  · exact ⟨nmL i.op ++ partsL i (hsL i.op).dropLast ++ [32, 101, 108, 115, 101], by simp⟩
  · exact ⟨nmL i.op ++ partsL i (hsL i.op).dropLast, rfl⟩
theorem right_zero {i : Ins} {p q : Int} (hr : rightB i p = true) (h : goesB i = true) (hq : 0 < q) : rightB { i with pl := 0 } q = true := by
  obtain ⟨op, d, s, t, u, a, k, pl⟩ := i
  unfold rightB at *
  rcases goes_cases h with e | e | e | ⟨e, e2⟩ <;> (simp only at e; subst e; simp [hsL, inB, lowI, endI, getI, isZ, clr, setI] at hr ⊢)
  · refine ⟨⟨hr.1.1, hr.1.2.1, hq⟩, hr.2⟩
  · refine ⟨⟨hr.1.1, hr.1.2.1, hq⟩, hr.2⟩
  · refine ⟨hq, hr.2⟩
  · obtain ⟨⟨q1, q2, q3, q4, q5, q6⟩, q7⟩ := hr
    refine ⟨⟨q1, q2, q3, q4, q5, ?_⟩, q7⟩
    split <;> omega
theorem goes_zero {i : Ins} (h : goesB i = true) : goesB { i with pl := 0 } = true := by
  unfold goesB at *
  simp only [Bool.or_eq_true, Bool.and_eq_true, decide_eq_true_eq] at *
  omega
theorem itoa_zero : Lib.itoa 0 = [48] := by
  rw [show (0 : Int) = ((0 : Nat) : Int) from rfl, itoa_nat, Lib.decDigits, dif_pos (by decide)]
  rfl

/-- The line of an instruction that goes to a name. -/
theorem line_goes (i : Ins) {p : Int} (hr : rightB i p = true) (hp : p ≤ 1073741824) (k0 : 0 ≤ i.k) (k1 : i.k < 4294967296) (h : goesB i = true) (nm : List UInt8) (hn : nameB nm = true) :
    lineL (headI i ++ nm) = some ({ i with pl := 0 }, nm) := by
  obtain ⟨a, ha⟩ := headI_end i
  have hs : headI i ++ nm = a ++ 32 :: nm := by rw [ha]; simp
  have h1 : lastW (headI i ++ nm) = nm := by rw [hs]; exact lastW_cat a nm (name_bf hn)
  have h2 : headW (headI i ++ nm) = headI i := by rw [hs, headW_cat a nm (name_bf hn), ha]
  have h3 : prs (headI i ++ [48]) = some { i with pl := 0 } := by
    rw [prs_iff]
    refine ⟨right_zero hr h (by decide), k0, k1, ?_⟩
    rw [text_goes _ (goes_zero h) (Int.le_refl 0), headI_pl i h 0]
    show headI i ++ Lib.itoa 0 = _
    rw [itoa_zero]
  unfold lineL
  rw [h2, h3, h1]
  simp only
  rw [if_pos ⟨goes_zero h, hn⟩]

theorem last_blank : ∀ s : List UInt8, Bf s ∨ ∃ a b, Bf b ∧ s = a ++ 32 :: b
  | [] => .inl (by unfold Bf; simp)
  | c :: r => by
    rcases last_blank r with h | ⟨a, b, hb, rfl⟩
    · by_cases hc : c = 32
      · exact .inr ⟨[], r, h, by rw [hc]; rfl⟩
      · refine .inl fun x hx => ?_
        rcases List.mem_cons.1 hx with rfl | hx
        · exact hc
        · exact h x hx
    · exact .inr ⟨c :: a, b, hb, rfl⟩

/-- A text begins with its op's name, and goes on behind a blank. -/
theorem text_first {i : Ins} {p : Int} (hr : rightB i p = true) : ∃ r, textL i = nmL i.op ++ 32 :: r := by
  have hh := right_hs hr
  obtain ⟨op, d, s, t, u, a, k, pl⟩ := i
  simp only at hh
  rcases op_cases op with rfl | rfl | rfl | rfl | rfl | rfl | rfl | rfl | rfl | rfl | rfl | rfl | rfl | rfl | rfl | rfl | rfl | rfl | rfl | rfl | rfl | hn
  all_goals first
    | exact absurd (hs_none hn).1 hh
    | (unfold textL partsL; simp only [hsL]; simp [partL, getI])
theorem text_head {i : Ins} {p : Int} (hr : rightB i p = true) : (wordsL (textL i)).head? = some (nmL i.op) := by
  obtain ⟨r, h⟩ := text_first hr
  rw [h, wordsL_cat, wordsL_one _ (nm_bf _)]
  rfl
theorem text_count {i : Ins} {p : Int} (hr : rightB i p = true) (hp : p ≤ 1073741824) (k0 : 0 ≤ i.k) (k1 : i.k < 4294967296) (h : i.op = 21) : (i.pl = -1 ∧ (wordsL (textL i)).length = 6) ∨ (0 ≤ i.pl ∧ (wordsL (textL i)).length = 8) := by
  obtain ⟨hd, hs, ht, hu, ha⟩ := right_regs i _ hr
  obtain ⟨op, d, s, t, u, a, k, pl⟩ := i
  simp only at hd hs ht hu ha k0 k1 h
  subst h
  have hr2 := right_more hp hr
  have hr3 := right_21 d s t u a k pl 1073741824 hd hs ht hu ha k0 k1
  rw [hr2] at hr3
  simp [eqI] at hr3
  obtain ⟨dn, rfl⟩ : ∃ n : Nat, d = n := ⟨d.toNat, by omega⟩
  obtain ⟨sn, rfl⟩ : ∃ n : Nat, s = n := ⟨s.toNat, by omega⟩
  obtain ⟨tn, rfl⟩ : ∃ n : Nat, t = n := ⟨t.toNat, by omega⟩
  obtain ⟨un, rfl⟩ : ∃ n : Nat, u = n := ⟨u.toNat, by omega⟩
  obtain ⟨an, rfl⟩ : ∃ n : Nat, a = n := ⟨a.toNat, by omega⟩
  obtain ⟨kn, rfl⟩ : ∃ n : Nat, k = n := ⟨k.toNat, by omega⟩
  obtain rfl : un = 0 := by omega
  by_cases hm : pl = -1
  · subst hm
    refine .inl ⟨rfl, ?_⟩
    by_cases hk : kn = 0
    · subst hk
      exact congrArg List.length (words_21_0m dn sn tn an 0)
    · obtain rfl : kn = 1 := by omega
      exact congrArg List.length (words_21_1m dn sn tn an 0)
  · obtain ⟨pn, rfl⟩ : ∃ n : Nat, pl = n := ⟨pl.toNat, by omega⟩
    refine .inr ⟨by simp, ?_⟩
    by_cases hk : kn = 0
    · subst hk
      exact congrArg List.length (words_21_0p dn sn tn an pn)
    · obtain rfl : kn = 1 := by omega
      exact congrArg List.length (words_21_1p dn sn tn an pn)

/-- The line of an instruction that goes nowhere. -/
theorem line_stay (i : Ins) {p : Int} (hr : rightB i p = true) (hp : p ≤ 1073741824) (k0 : 0 ≤ i.k) (k1 : i.k < 4294967296) (h : goesB i = false) : lineL (textL i) = some (i, []) := by
  have hr2 := right_more hp hr
  have h0 : prs (textL i) = some i := (prs_iff _ _).2 ⟨hr2, k0, k1, rfl⟩
  unfold lineL
  cases hj : prs (headW (textL i) ++ [48]) with
  | none => simp only [h0, h]; rfl
  | some j =>
    simp only
    rw [if_neg, h0]
    · simp only [h]; rfl
    · rintro ⟨hg, -⟩
      obtain ⟨jr, j0, j1, jt⟩ := (prs_iff _ _).1 hj
      rcases last_blank (textL i) with hb | ⟨a, b, hb, hs⟩
      · obtain ⟨r, hr3⟩ := text_first hr
        rw [hr3] at hb
        exact hb 32 (by simp) rfl
      · rw [hs, headW_cat a b hb] at jt
        have jt2 : textL j = a ++ 32 :: [48] := by rw [jt]; simp
        have w1 : wordsL (textL i) = wordsL a ++ [b] := by rw [hs, wordsL_cat, wordsL_one b hb]
        have w2 : wordsL (textL j) = wordsL a ++ [[48]] := by rw [jt2, wordsL_cat, wordsL_one [48] (by simp)]
        have e1 := text_head hr
        have e2 := text_head jr
        rw [w1] at e1
        rw [w2] at e2
        have hop : i.op = j.op := by
          refine nm_inj hr jr ?_
          cases hw : wordsL a with
          | nil => exact absurd hw (wordsL_ne a)
          | cons x y =>
            rw [hw] at e1 e2
            simp at e1 e2
            rw [← e1, ← e2]
        rcases goes_cases hg with e | e | e | ⟨e, e3⟩
        · unfold goesB at h; rw [hop, e] at h; revert h; simp
        · unfold goesB at h; rw [hop, e] at h; revert h; simp
        · unfold goesB at h; rw [hop, e] at h; revert h; simp
        · have c1 := text_count hr hp k0 k1 (hop.trans e)
          have c2 := text_count jr (Int.le_refl _) j0 j1 e
          rw [w1] at c1
          rw [w2] at c2
          simp only [List.length_append, List.length_cons, List.length_nil] at c1 c2
          have : ¬ 0 ≤ i.pl := by
            unfold goesB at h
            rw [hop, e] at h
            simp at h
            omega
          omega

/-- A line of an instruction is no label's. -/
theorem lb_no {s a b : List UInt8} (h : s = a ++ 32 :: b) (hb : b ≠ []) : lbB s = false := by
  rw [Bool.eq_false_iff]
  intro hl
  unfold lbB at hl
  simp only [Bool.and_eq_true] at hl
  have hn := name_bf hl.2.2
  refine hn 32 ?_ rfl
  rw [h, List.dropLast_append_of_ne_nil (by simp)]
  cases b with
  | nil => exact absurd rfl hb
  | cons x y => simp
theorem lb_yes {s : List UInt8} (h : nameB s = true) : lbB (s ++ [58]) = true := by
  unfold lbB
  simp [h]
end Go.Proofs.YthdgehcghklflaaDoor

/- What is assembled of a program's own text is the program. No walk stands here. -/
namespace Go.Proofs.YthdgehcghklflaaDoor
set_option linter.unusedVariables false

/-- A line, as what it is: a label, or an instruction with the name of its place. -/
inductive Tok where
  | lab (nm : List UInt8)
  | ins (i : Ins) (nm s : List UInt8)
def Tok.text : Tok → List UInt8
  | .lab nm => nm ++ [58]
  | .ins _ _ s => s
def Tok.Ok : Tok → Prop
  | .lab nm => nameB nm = true
  | .ins i nm s => lbB s = false ∧ lineL s = some (i, nm)
def labsT : List Tok → Int → List (List UInt8 × Int)
  | [], _ => []
  | .lab nm :: m, k => (nm, k) :: labsT m k
  | .ins _ _ _ :: m, k => labsT m (k + 1)
def rowsT : List Tok → Int → List (Ins × List UInt8 × Int)
  | [], _ => []
  | .lab _ :: m, n => rowsT m (n + 1)
  | .ins i nm _ :: m, n => (i, nm, n) :: rowsT m (n + 1)
def namesT : List Tok → List (List UInt8)
  | [] => []
  | .lab nm :: m => nm :: namesT m
  | .ins _ _ _ :: m => namesT m

theorem names_labs : ∀ (toks : List Tok) (k : Int), (labsT toks k).map (·.1) = namesT toks
  | [], _ => rfl
  | .lab nm :: m, k => by simp [labsT, namesT, names_labs m k]
  | .ins _ _ _ :: m, k => by simp [labsT, namesT, names_labs m (k + 1)]

theorem asm1_toks : ∀ (toks : List Tok) (n : Int) (ls : List (List UInt8 × Int)) (rs : List (Ins × List UInt8 × Int)), (∀ t ∈ toks, t.Ok) → (ls.map (·.1) ++ namesT toks).Nodup → rs.length + (rowsT toks n).length ≤ 64 →
    asm1 (toks.map Tok.text) n ls rs = .inr (ls ++ labsT toks rs.length, rs ++ rowsT toks n)
  | [], n, ls, rs, _, _, _ => by simp [asm1, labsT, rowsT]
  | .lab nm :: m, n, ls, rs, hok, hnd, hc => by
    have h1 : nameB nm = true := hok _ List.mem_cons_self
    have hany : (ls.any fun x => x.1 == nm) = false := by
      rw [Bool.eq_false_iff]
      intro h
      obtain ⟨x, hx, he⟩ := List.any_eq_true.1 h
      have he2 : x.1 = nm := by simpa using he
      have := (List.nodup_append.1 hnd).2.2 x.1 (List.mem_map.2 ⟨x, hx, rfl⟩) nm (by simp [namesT])
      exact this he2
    have ih := asm1_toks m (n + 1) (ls ++ [(nm, (rs.length : Int))]) rs (fun t ht => hok t (List.mem_cons_of_mem _ ht)) (by simpa [namesT] using hnd) (by simpa [rowsT] using hc)
    simp only [List.map_cons, Tok.text, asm1, lb_yes h1, if_pos, List.dropLast_concat, hany]
    rw [if_neg (by decide), ih]
    simp [labsT, rowsT]
  | .ins i nm s :: m, n, ls, rs, hok, hnd, hc => by
    obtain ⟨h1, h2⟩ : lbB s = false ∧ lineL s = some (i, nm) := hok _ List.mem_cons_self
    have hc2 : rs.length + ((rowsT m (n + 1)).length + 1) ≤ 64 := by simpa [rowsT] using hc
    have ih := asm1_toks m (n + 1) ls (rs ++ [(i, nm, n)]) (fun t ht => hok t (List.mem_cons_of_mem _ ht)) (by simpa [namesT] using hnd) (by simp; omega)
    simp only [List.map_cons, Tok.text, asm1, h1, h2]
    rw [if_neg (by decide), if_neg (by omega), ih]
    simp [labsT, rowsT]

theorem find_mem : ∀ (ls : List (List UInt8 × Int)) (s : List UInt8) (p n : Int), (ls.map (·.1)).Nodup → (s, p) ∈ ls → p < n → findL ls s n = p
  | [], s, p, n, _, h, _ => by simp at h
  | (x, q) :: m, s, p, n, hnd, h, hp => by
    unfold findL
    by_cases e : (s, p) = (x, q)
    · injection e with e1 e2
      subst e1 e2
      simp [hp]
    · have hm : (s, p) ∈ m := by
        rcases List.mem_cons.1 h with h | h
        · exact absurd h e
        · exact h
      have hne : x ≠ s := by
        rintro rfl
        have h2 : x ∉ m.map (·.1) := (List.nodup_cons.1 hnd).1
        exact h2 (List.mem_map.2 ⟨(x, p), hm, rfl⟩)
      have ih := find_mem m s p n (List.nodup_cons.1 hnd).2 hm hp
      unfold findL at ih
      rw [List.find?_cons_of_neg (by simp [hne])]
      exact ih

theorem asm2_all (ls : List (List UInt8 × Int)) (n : Int) : ∀ (rs : List (Ins × List UInt8 × Int)), (∀ r ∈ rs, r.2.1 = [] ∨ 0 ≤ findL ls r.2.1 n) →
    asm2 ls n rs = .inr (rs.map fun r => if r.2.1 = [] then r.1 else { r.1 with pl := findL ls r.2.1 n })
  | [], _ => rfl
  | (i, nm, row) :: m, h => by
    have ih := asm2_all ls n m fun r hr => h r (List.mem_cons_of_mem _ hr)
    have h1 := h _ List.mem_cons_self
    simp only at h1
    unfold asm2
    by_cases e : nm = []
    · rw [if_pos e, ih]
      simp [e]
    · rw [if_neg e, if_neg (by rcases h1 with h1 | h1; exact absurd h1 e; omega), ih]
      simp [e]

-- lines
theorem piecesL_ne : ∀ s : List UInt8, piecesL s ≠ []
  | [] => by simp [piecesL]
  | c :: r => by
    unfold piecesL
    split
    · simp
    · cases h : piecesL r with
      | nil => simp [ahead]
      | cons a b => simp [ahead]
theorem pieces_more : ∀ (t r : List UInt8), Nl t → piecesL (t ++ 10 :: r) = t :: piecesL r
  | [], r, _ => by simp [piecesL]
  | c :: t, r, h => by
    have ih := pieces_more t r fun d hd => h d (List.mem_cons_of_mem _ hd)
    show piecesL (c :: (t ++ 10 :: r)) = _
    rw [piecesL, if_neg (h c List.mem_cons_self), ih]
    rfl
theorem pieces_lines : ∀ (l : List (List UInt8)), (∀ s ∈ l, Nl s) → piecesL (l.flatMap fun s => s ++ [10]) = l ++ [[]]
  | [], _ => rfl
  | s :: m, h => by
    have ih := pieces_lines m fun x hx => h x (List.mem_cons_of_mem _ hx)
    rw [List.flatMap_cons, List.append_assoc]
    show piecesL (s ++ 10 :: (m.flatMap fun s => s ++ [10])) = _
    rw [pieces_more s _ (h s List.mem_cons_self), ih]
    rfl

/-- What the rows of a program are. -/
def rowI (c : Prg) (i : Ins) : Ins × List UInt8 := if goesB i = true then ({ i with pl := 0 }, labelL c i.pl) else (i, [])

def finQ (ls : List (List UInt8 × Int)) (n : Int) (q : Ins × List UInt8) : Ins := if q.2 = [] then q.1 else { q.1 with pl := findL ls q.2 n }

theorem label_ne (c : Prg) (k : Int) : labelL c k ≠ [] := by
  unfold labelL lockW unlockW
  split
  · simp
  · split <;> simp
theorem label_at (c : Prg) (i : Ins) (hi : i ∈ c.l) (hg : goesB i = true) : labelL c i.pl ∈ labsAt c i.pl := by
  by_cases h1 : i.pl = c.lo
  · rw [show labelL c i.pl = lockW by unfold labelL; rw [if_pos h1]]
    unfold labsAt
    simp [h1]
  · by_cases h2 : i.pl = c.un
    · rw [show labelL c i.pl = unlockW by unfold labelL; rw [if_neg h1, if_pos h2]]
      unfold labsAt
      refine List.mem_append.2 (.inr (List.mem_append.2 (.inl ?_)))
      rw [if_pos h2]
      exact List.mem_cons_self
    · have hw : wantB c i.pl = true := by
        unfold wantB
        rw [List.any_eq_true]
        exact ⟨i, hi, by simp [hg]⟩
      unfold labsAt
      simp [h1, h2, hw]

/-- Lines that hold a program's labels, and its instructions in order, and labels besides: what is assembled of them is the program. -/
theorem asm_prog (c : Prg) (hc : prgB c = true) (toks : List Tok) (hok : ∀ t ∈ toks, t.Ok) (hnd : (namesT toks).Nodup) (hnl : ∀ t ∈ toks, Nl t.text)
    (hrows : (rowsT toks 1).map (fun r => (r.1, r.2.1)) = c.l.map (rowI c)) (hl : ∀ (j : Int) (x : List UInt8), 0 ≤ j → j < c.l.length → x ∈ labsAt c j → (x, j) ∈ labsT toks 0) :
    asmL ((toks.map Tok.text).flatMap fun s => s ++ [10]) = (c, 0, 0) := by
  unfold prgB at hc
  simp only [Bool.and_eq_true, decide_eq_true_eq, List.all_eq_true] at hc
  obtain ⟨c1, c2, c3, c4, c5, c6, c7⟩ := hc
  have hlen : (rowsT toks 1).length = c.l.length := by
    have := congrArg List.length hrows
    simpa using this
  have hp := pieces_lines (toks.map Tok.text) (by
    intro s hs
    obtain ⟨t, ht, rfl⟩ := List.mem_map.1 hs
    exact hnl t ht)
  have h1 := asm1_toks toks 1 [] [] hok (by simpa using hnd) (by simpa [hlen] using c2)
  simp only [List.nil_append, List.length_nil, Int.ofNat_zero] at h1
  have hfnd : ∀ (j : Int) (x : List UInt8), 0 ≤ j → j < c.l.length → x ∈ labsAt c j → findL (labsT toks 0) x c.l.length = j := fun j x j0 j1 hx =>
    find_mem _ _ _ _ (by rw [names_labs]; exact hnd) (hl j x j0 j1 hx) j1
  have hlo : findL (labsT toks 0) lockW c.l.length = c.lo := hfnd c.lo lockW c3 c5 (by unfold labsAt; simp)
  have hun : findL (labsT toks 0) unlockW c.l.length = c.un := hfnd c.un unlockW c4 c6 (by unfold labsAt; simp)
  have hgo : ∀ i ∈ c.l, goesB i = true → findL (labsT toks 0) (labelL c i.pl) c.l.length = i.pl := fun i hi hg =>
    hfnd i.pl _ (goes_pl (c7 i hi) hg).1 (goes_pl (c7 i hi) hg).2 (label_at c i hi hg)
  have h2 : asm2 (labsT toks 0) c.l.length (rowsT toks 1) = .inr c.l := by
    have e : ∀ r ∈ rowsT toks 1, ∃ i ∈ c.l, (r.1, r.2.1) = rowI c i := fun r hr => by
      have : (r.1, r.2.1) ∈ c.l.map (rowI c) := by rw [← hrows]; exact List.mem_map.2 ⟨r, hr, rfl⟩
      obtain ⟨i, hi, he⟩ := List.mem_map.1 this
      exact ⟨i, hi, he.symm⟩
    rw [asm2_all]
    · congr 1
      have e2 : (rowsT toks 1).map (fun r => if r.2.1 = [] then r.1 else { r.1 with pl := findL (labsT toks 0) r.2.1 c.l.length }) =
          ((rowsT toks 1).map fun r => (r.1, r.2.1)).map (finQ (labsT toks 0) c.l.length) := by
        rw [List.map_map]; rfl
      rw [e2, hrows, List.map_map]
      conv => rhs; rw [← List.map_id c.l]
      refine List.map_congr_left fun i hi => ?_
      show finQ (labsT toks 0) c.l.length (rowI c i) = i
      by_cases hg : goesB i = true
      · rw [show rowI c i = ({ i with pl := 0 }, labelL c i.pl) from if_pos hg]
        unfold finQ
        simp only
        rw [if_neg (label_ne c _), hgo i hi hg]
      · rw [show rowI c i = (i, []) from if_neg hg]
        rfl
    · intro r hr
      obtain ⟨i, hi, he⟩ := e r hr
      unfold rowI at he
      by_cases hg : goesB i = true
      · rw [if_pos hg] at he
        injection he with e3 e4
        right
        rw [e4, hgo i hi hg]
        exact (goes_pl (c7 i hi) hg).1
      · rw [if_neg hg] at he
        injection he with e3 e4
        exact .inl e4
  unfold asmL
  rw [hp, List.dropLast_concat, h1]
  simp only [List.getLastD_concat, hlen, h2, hlo, hun]
  rw [if_neg (by simp), if_neg (by omega)]
end Go.Proofs.YthdgehcghklflaaDoor

/- The lines of a program's own text; labels that nothing goes to, ahead of any of them. No walk stands here. -/
namespace Go.Proofs.YthdgehcghklflaaDoor
set_option linter.unusedVariables false

theorem itoa_nn {n : Int} (h : 0 ≤ n) : Lib.itoa n = Lib.decDigits n.toNat := by unfold Lib.itoa; rw [if_neg (by omega)]
theorem itoa_inj {m n : Int} (hm : 0 ≤ m) (hn : 0 ≤ n) (h : Lib.itoa m = Lib.itoa n) : m = n := by
  rw [itoa_nn hm, itoa_nn hn] at h
  have h1 := numFrom_dec m.toNat
  rw [h, numFrom_dec n.toNat] at h1
  injection h1 with h1
  omega
theorem itoa_digit {n : Int} (h : 0 ≤ n) : ∀ c ∈ Lib.itoa n, digB c = true := by
  rw [itoa_nn h]
  intro c hc
  have := dec_digit n.toNat c hc
  unfold digB
  simp [this]
theorem itoa_nl (n : Int) : Nl (Lib.itoa n) := by
  have key : ∀ k : Nat, Nl (Lib.decDigits k) := fun k c hc e => by
    have := dec_digit k c hc
    rw [e] at this
    revert this
    decide
  unfold Lib.itoa
  split
  · intro c hc
    rcases List.mem_cons.1 hc with rfl | hc
    · decide
    · exact key _ c hc
  · exact key _

theorem name_place {n : Int} (h0 : 0 ≤ n) (h1 : n < 64) : nameB (108 :: Lib.itoa n) = true := by
  have hd := itoa_digit h0
  have hl : (Lib.itoa n).length ≤ 2 := by
    rw [itoa_nn h0]
    exact dec_len10 1 n.toNat (by omega)
  unfold nameB
  simp only [Bool.and_eq_true, decide_eq_true_eq, List.all_eq_true, List.length_cons]
  refine ⟨by omega, by omega, (show lowB 108 = true by decide), fun c hc => ?_⟩
  rcases List.mem_cons.1 hc with rfl | hc
  · decide
  · simp [hd c hc]
theorem name_label (c : Prg) {k : Int} (h0 : 0 ≤ k) (h1 : k < 64) : nameB (labelL c k) = true := by
  unfold labelL
  split
  · decide
  · split
    · decide
    · exact name_place h0 h1
theorem labs_cases {c : Prg} {k : Int} {x : List UInt8} (h : x ∈ labsAt c k) : (x = lockW ∧ k = c.lo) ∨ (x = unlockW ∧ k = c.un) ∨ (x = 108 :: Lib.itoa k ∧ k ≠ c.lo ∧ k ≠ c.un) := by
  unfold labsAt at h
  rcases List.mem_append.1 h with h | h
  · split at h
    · exact .inl ⟨by simpa using h, by assumption⟩
    · simp at h
  · rcases List.mem_append.1 h with h | h
    · split at h
      · exact .inr (.inl ⟨by simpa using h, by assumption⟩)
      · simp at h
    · split at h
      · rename_i hw
        refine .inr (.inr ⟨?_, hw.2⟩)
        have : x = labelL c k := by simpa using h
        rw [this]
        unfold labelL
        rw [if_neg hw.2.1, if_neg hw.2.2]
      · simp at h
theorem labs_name {c : Prg} {k : Int} {x : List UInt8} (h : x ∈ labsAt c k) (h0 : 0 ≤ k) (h1 : k < 64) : nameB x = true := by
  rcases labs_cases h with ⟨rfl, -⟩ | ⟨rfl, -⟩ | ⟨rfl, -⟩
  · decide
  · decide
  · exact name_place h0 h1
theorem lock_no {n : Int} (h : 0 ≤ n) : lockW ≠ 108 :: Lib.itoa n := by
  intro e
  unfold lockW at e
  injection e with _ e
  have := itoa_digit h 111 (by rw [← e]; simp)
  revert this
  decide
theorem unlock_no (n : Int) : unlockW ≠ 108 :: Lib.itoa n := by
  intro e
  unfold unlockW at e
  injection e with e _
  revert e
  decide
theorem labs_place {c : Prg} {j k : Int} {x : List UInt8} (j0 : 0 ≤ j) (k0 : 0 ≤ k) (hj : x ∈ labsAt c j) (hk : x ∈ labsAt c k) : j = k := by
  rcases labs_cases hj with ⟨e1, h1⟩ | ⟨e1, h1⟩ | ⟨e1, h1⟩ <;> rcases labs_cases hk with ⟨e2, h2⟩ | ⟨e2, h2⟩ | ⟨e2, h2⟩
  · omega
  · rw [e1] at e2; exact absurd e2 (by decide)
  · rw [e1] at e2; exact absurd e2 (lock_no k0)
  · rw [e1] at e2; exact absurd e2 (by decide)
  · omega
  · rw [e1] at e2; exact absurd e2 (unlock_no k)
  · rw [e2] at e1; exact absurd e1 (lock_no j0)
  · rw [e2] at e1; exact absurd e1 (unlock_no j)
  · rw [e1] at e2
    injection e2 with _ e2
    exact itoa_inj j0 k0 e2
theorem labs_nodup (c : Prg) (k : Int) : (labsAt c k).Nodup := by
  have hne : lockW ≠ unlockW := by decide
  unfold labsAt
  by_cases h1 : k = c.lo
  · by_cases h2 : k = c.un
    · rw [if_pos h1, if_pos h2, if_neg (fun h => h.2.1 h1)]; simp [hne]
    · rw [if_pos h1, if_neg h2, if_neg (fun h => h.2.1 h1)]; simp
  · by_cases h2 : k = c.un
    · rw [if_neg h1, if_pos h2, if_neg (fun h => h.2.2 h2)]; simp
    · rw [if_neg h1, if_neg h2]; split <;> simp
/-- The lines of a program, as what they are. -/
def toksFrom (c : Prg) : List Ins → Int → List Tok
  | [], _ => []
  | i :: more, k => (labsAt c k).map Tok.lab ++ Tok.ins (rowI c i).1 (rowI c i).2 (insLine c i) :: toksFrom c more (k + 1)
theorem toks_text (c : Prg) : ∀ (l : List Ins) (k : Int), (toksFrom c l k).map Tok.text = linesFrom c l k
  | [], _ => rfl
  | i :: m, k => by
    simp only [toksFrom, linesFrom, List.map_append, List.map_map, List.map_cons, toks_text c m (k + 1)]
    rfl

theorem names_app : ∀ (a b : List Tok), namesT (a ++ b) = namesT a ++ namesT b
  | [], b => rfl
  | .lab nm :: a, b => by simp [namesT, names_app a b]
  | .ins _ _ _ :: a, b => by simp [namesT, names_app a b]
theorem names_lab : ∀ l : List (List UInt8), namesT (l.map Tok.lab) = l
  | [] => rfl
  | x :: l => by simp [namesT, names_lab l]
theorem names_toks (c : Prg) (i : Ins) (m : List Ins) (k : Int) : namesT (toksFrom c (i :: m) k) = labsAt c k ++ namesT (toksFrom c m (k + 1)) := by
  rw [toksFrom, names_app, names_lab]
  rfl
theorem names_mem (c : Prg) : ∀ (l : List Ins) (k : Int) (x : List UInt8), x ∈ namesT (toksFrom c l k) → ∃ j, k ≤ j ∧ j < k + l.length ∧ x ∈ labsAt c j
  | [], k, x, h => by simp [toksFrom, namesT] at h
  | i :: m, k, x, h => by
    rw [names_toks] at h
    rcases List.mem_append.1 h with h | h
    · exact ⟨k, Int.le_refl _, by simp; omega, h⟩
    · obtain ⟨j, h1, h2, h3⟩ := names_mem c m (k + 1) x h
      exact ⟨j, by omega, by simp; omega, h3⟩
theorem names_nodup (c : Prg) : ∀ (l : List Ins) (k : Int), 0 ≤ k → (namesT (toksFrom c l k)).Nodup
  | [], k, _ => by simp [toksFrom, namesT]
  | i :: m, k, h => by
    rw [names_toks, List.nodup_append]
    refine ⟨labs_nodup c k, names_nodup c m (k + 1) (by omega), fun x hx y hy e => ?_⟩
    subst e
    obtain ⟨j, h1, h2, h3⟩ := names_mem c m (k + 1) x hy
    have := labs_place h (by omega) hx h3
    omega

theorem labsT_app : ∀ (a b : List Tok) (k : Int), labsT (a ++ b) k = labsT a k ++ labsT b (k + (rowsT a 0).length)
  | [], b, k => by simp [labsT, rowsT]
  | .lab nm :: a, b, k => by
    have : (rowsT a (0 + 1)).length = (rowsT a 0).length := rows_len a _ _
    simp only [List.cons_append, labsT, rowsT, labsT_app a b k, this]
  | .ins _ _ _ :: a, b, k => by
    have : (rowsT a (0 + 1)).length = (rowsT a 0).length := rows_len a _ _
    simp only [List.cons_append, labsT, rowsT, labsT_app a b (k + 1), List.length_cons, this]
    congr 2
    simp
    omega
where
  rows_len : ∀ (a : List Tok) (m n : Int), (rowsT a m).length = (rowsT a n).length
    | [], _, _ => rfl
    | .lab _ :: a, m, n => by simp only [rowsT]; exact rows_len a _ _
    | .ins _ _ _ :: a, m, n => by simp only [rowsT, List.length_cons]; rw [rows_len a _ _]
theorem rows_lab (l : List (List UInt8)) (n : Int) : rowsT (l.map Tok.lab) n = [] := by
  induction l generalizing n with
  | nil => rfl
  | cons x l ih => simp only [List.map_cons, rowsT]; exact ih _
theorem labsT_lab (l : List (List UInt8)) (k : Int) : labsT (l.map Tok.lab) k = l.map fun x => (x, k) := by
  induction l with
  | nil => rfl
  | cons x l ih => simp only [List.map_cons, labsT, ih]
theorem labsT_toks (c : Prg) (i : Ins) (m : List Ins) (k q : Int) : labsT (toksFrom c (i :: m) k) q = (labsAt c k).map (fun x => (x, q)) ++ labsT (toksFrom c m (k + 1)) (q + 1) := by
  rw [toksFrom, labsT_app, rows_lab, labsT_lab]
  simp [labsT]
theorem labs_mem (c : Prg) : ∀ (l : List Ins) (k j : Int) (x : List UInt8), k ≤ j → j < k + l.length → x ∈ labsAt c j → (x, j) ∈ labsT (toksFrom c l k) k
  | [], k, j, x, h1, h2, _ => by simp at h2; omega
  | i :: m, k, j, x, h1, h2, h => by
    rw [labsT_toks]
    by_cases e : j = k
    · subst e
      exact List.mem_append.2 (.inl (List.mem_map.2 ⟨x, h, rfl⟩))
    · exact List.mem_append.2 (.inr (labs_mem c m (k + 1) j x (by omega) (by simp at h2; omega) h))
theorem rowsT_app : ∀ (a b : List Tok) (n : Int), rowsT (a ++ b) n = rowsT a n ++ rowsT b (n + a.length)
  | [], b, n => by simp [rowsT]
  | .lab nm :: a, b, n => by
    simp only [List.cons_append, rowsT, rowsT_app a b (n + 1), List.length_cons]
    congr 2
    simp
    omega
  | .ins _ _ _ :: a, b, n => by
    simp only [List.cons_append, rowsT, rowsT_app a b (n + 1), List.length_cons]
    congr 3
    simp
    omega
theorem rows_toks (c : Prg) : ∀ (l : List Ins) (k n : Int), (rowsT (toksFrom c l k) n).map (fun r => (r.1, r.2.1)) = l.map (rowI c)
  | [], _, _ => rfl
  | i :: m, k, n => by
    rw [toksFrom, rowsT_app, rows_lab]
    simp [rowsT, rows_toks c m]

theorem nm_nl (op : Int) : Nl (nmL op) := by
  rcases op_cases op with rfl | rfl | rfl | rfl | rfl | rfl | rfl | rfl | rfl | rfl | rfl | rfl | rfl | rfl | rfl | rfl | rfl | rfl | rfl | rfl | rfl | hn
  all_goals first | (unfold Nl; decide) | (rw [(hs_none hn).2]; unfold Nl; simp)
theorem part_nl (i : Ins) (x : Int) : Nl (partL i x) := by
  have key : ∀ (a : List UInt8) (n : Int), (∀ y ∈ a, y ≠ 10) → Nl (a ++ Lib.itoa n) := fun a n ha => Nl.app ha (itoa_nl n)
  have k1 : ∀ n : Int, Nl (32 :: Lib.itoa n) := fun n => key [32] n (by decide)
  unfold partL
  repeat' split
  all_goals first
    | exact k1 _
    | exact key _ _ (by decide)
    | (unfold Nl; decide)
theorem parts_nl (i : Ins) : ∀ l : List UInt8, Nl (partsL i l)
  | [] => by unfold Nl partsL; simp
  | x :: l => by
    have : partsL i (x :: l) = partL i x.toNat ++ partsL i l := by simp [partsL]
    rw [this]
    exact Nl.app (part_nl i _) (parts_nl i l)
theorem text_nl (i : Ins) : Nl (textL i) := Nl.app (nm_nl _) (parts_nl i _)
theorem head_nl (i : Ins) : Nl (headI i) := by
  unfold headI
  refine Nl.app (Nl.app (nm_nl _) (parts_nl i _)) ?_
  split <;> (unfold Nl; decide)
theorem name_nl {s : List UInt8} (h : nameB s = true) : Nl s := by
  unfold nameB at h
  simp only [Bool.and_eq_true] at h
  intro c hc e
  have := List.all_eq_true.1 h.2.2.2 c hc
  subst e
  revert this
  decide

theorem itoa_ne (n : Int) : Lib.itoa n ≠ [] := by
  unfold Lib.itoa
  split
  · simp
  · obtain ⟨c, r, h, -⟩ := dec_cons n.toNat
    rw [h]
    simp
theorem text_rest {i : Ins} {p : Int} (hr : rightB i p = true) : ∃ r, textL i = nmL i.op ++ 32 :: r ∧ r ≠ [] := by
  have hh := right_hs hr
  have hi := itoa_ne
  obtain ⟨op, d, s, t, u, a, k, pl⟩ := i
  simp only at hh
  rcases op_cases op with rfl | rfl | rfl | rfl | rfl | rfl | rfl | rfl | rfl | rfl | rfl | rfl | rfl | rfl | rfl | rfl | rfl | rfl | rfl | rfl | rfl | hn
  all_goals first
    | exact absurd (hs_none hn).1 hh
    | (unfold textL partsL; simp only [hsL]; simp [partL, getI, hi])

theorem row_ok (c : Prg) (i : Ins) (hr : rightB i c.l.length = true) (hc : c.l.length ≤ 64) (k0 : 0 ≤ i.k) (k1 : i.k < 4294967296) : (Tok.ins (rowI c i).1 (rowI c i).2 (insLine c i)).Ok ∧ Nl (insLine c i) := by
  unfold Tok.Ok insLine
  simp only
  by_cases hg : goesB i = true
  · have hp := goes_pl hr hg
    have hn := name_label c hp.1 (by omega : i.pl < 64)
    rw [if_pos hg, show rowI c i = ({ i with pl := 0 }, labelL c i.pl) from if_pos hg]
    obtain ⟨a, ha⟩ := headI_end i
    exact ⟨⟨lb_no (a := a) (b := labelL c i.pl) (by rw [ha]; simp) (label_ne c _), line_goes i hr (by omega) k0 k1 hg _ hn⟩, Nl.app (head_nl i) (name_nl hn)⟩
  · rw [if_neg hg, show rowI c i = (i, []) from if_neg hg]
    obtain ⟨r, h1, h2⟩ := text_rest hr
    exact ⟨⟨lb_no h1 h2, line_stay i hr (by omega) k0 k1 (by simpa using hg)⟩, text_nl i⟩
theorem toks_ok (c : Prg) (hc : c.l.length ≤ 64) : ∀ (l : List Ins) (k : Int), 0 ≤ k → k + l.length ≤ 64 → (∀ i ∈ l, rightB i c.l.length = true ∧ 0 ≤ i.k ∧ i.k < 4294967296) → ∀ t ∈ toksFrom c l k, t.Ok ∧ Nl t.text
  | [], k, _, _, _, t, ht => by simp [toksFrom] at ht
  | i :: m, k, h0, h1, h, t, ht => by
    rw [toksFrom] at ht
    simp only [List.length_cons] at h1
    rcases List.mem_append.1 ht with ht | ht
    · obtain ⟨x, hx, rfl⟩ := List.mem_map.1 ht
      have hn := labs_name hx h0 (by omega)
      exact ⟨hn, Nl.app (name_nl hn) (by unfold Nl; decide)⟩
    · rcases List.mem_cons.1 ht with rfl | ht
      · obtain ⟨a, b, d⟩ := h i List.mem_cons_self
        exact row_ok c i a hc b d
      · exact toks_ok c hc m (k + 1) (by omega) (by omega) (fun i hi => h i (List.mem_cons_of_mem _ hi)) t ht

theorem prg_facts {c : Prg} (h : prgB c = true) : c.l.length ≤ 64 ∧ ∀ i ∈ c.l, rightB i c.l.length = true := by
  unfold prgB at h
  simp only [Bool.and_eq_true, decide_eq_true_eq, List.all_eq_true] at h
  exact ⟨h.2.1, h.2.2.2.2.2.2⟩

/-- What is assembled of a program's own text is the program. -/
theorem asm_print (c : Prg) (hc : prgB c = true) (hk : ∀ i ∈ c.l, 0 ≤ i.k ∧ i.k < 4294967296) : asmL (printL c) = (c, 0, 0) := by
  obtain ⟨h1, h2⟩ := prg_facts hc
  have hok := toks_ok c h1 c.l 0 (by omega) (by omega) fun i hi => ⟨h2 i hi, hk i hi⟩
  unfold printL
  rw [← toks_text]
  exact asm_prog c hc _ (fun t ht => (hok t ht).1) (names_nodup c _ _ (by omega)) (fun t ht => (hok t ht).2) (rows_toks c _ _ _)
    fun j x j0 j1 hx => labs_mem c c.l 0 j x j0 (by omega) hx
end Go.Proofs.YthdgehcghklflaaDoor

/- Labels besides change nothing; what is assembled is right; one instruction too many is told. No walk stands here. -/
namespace Go.Proofs.YthdgehcghklflaaDoor
set_option linter.unusedVariables false

end Go.Proofs.YthdgehcghklflaaDoor

/- What is assembled, line by line; what is printed, instruction by instruction: in the steps of a loop. No walk stands here. -/
namespace Go.Proofs.YthdgehcghklflaaDoor
set_option linter.unusedVariables false

/-- The end: places of names, lock and unlock. -/
def finishL (ls : List (List UInt8 × Int)) (rs : List (Ins × List UInt8 × Int)) : Prg × Int × Int :=
  match asm2 ls rs.length rs with
  | .inl (n, e) => (Prg.zero, n, e)
  | .inr l => if findL ls lockW rs.length < 0 ∨ findL ls unlockW rs.length < 0 then (Prg.zero, 0, 10)
    else (⟨l, findL ls lockW rs.length, findL ls unlockW rs.length⟩, 0, 0)
/-- What is assembled of the rest t of a text, from line n on. -/
def asmGo (t : List UInt8) (n : Int) (ls : List (List UInt8 × Int)) (rs : List (Ins × List UInt8 × Int)) : Prg × Int × Int :=
  match asm1 (piecesL t).dropLast n ls rs with
  | .inl (m, e) => (Prg.zero, m, e)
  | .inr (ls, rs) => if (piecesL t).getLastD [] ≠ [] then (Prg.zero, n + (piecesL t).length - 1, 8) else finishL ls rs
theorem asmGo_all (text : List UInt8) : asmL text = asmGo text 1 [] [] := by
  have e : (1 : Int) + ((piecesL text).length : Int) - 1 = ((piecesL text).length : Int) := by omega
  unfold asmL asmGo finishL
  rw [e]
theorem dropLast_cons {α : Type} (x : α) (l : List α) (h : l ≠ []) : (x :: l).dropLast = x :: l.dropLast := by
  cases l with
  | nil => exact absurd rfl h
  | cons a b => rfl
theorem getLastD_cons' {α : Type} (x d : α) (l : List α) (h : l ≠ []) : (x :: l).getLastD d = l.getLastD d := by
  cases l with
  | nil => exact absurd rfl h
  | cons a b => rfl
/-- One line. -/
theorem asmGo_line (s r : List UInt8) (h : Nl s) (n : Int) (ls : List (List UInt8 × Int)) (rs : List (Ins × List UInt8 × Int)) :
    asmGo (s ++ 10 :: r) n ls rs =
      if lbB s = true then (if (ls.any fun x => x.1 == s.dropLast) = true then (Prg.zero, n, 2) else asmGo r (n + 1) (ls ++ [(s.dropLast, (rs.length : Int))]) rs)
      else match lineL s with
        | none => (Prg.zero, n, 8)
        | some (i, nm) => if 64 ≤ rs.length then (Prg.zero, n, 9) else asmGo r (n + 1) ls (rs ++ [(i, nm, n)]) := by
  have hp := pieces_more s r h
  have hne := piecesL_ne r
  have e : n + ((piecesL (s ++ 10 :: r)).length : Int) - 1 = n + 1 + ((piecesL r).length : Int) - 1 := by
    rw [hp]
    simp
    omega
  unfold asmGo
  rw [e, hp, dropLast_cons _ _ hne, getLastD_cons' _ _ _ hne]
  simp only [asm1]
  by_cases h1 : lbB s = true
  · simp only [h1, if_true]
    by_cases h2 : (ls.any fun x => x.1 == s.dropLast) = true
    · simp only [h2, if_true]
    · simp only [h2]
      rfl
  · simp only [h1]
    cases hl : lineL s with
    | none => simp
    | some q =>
      obtain ⟨i, nm⟩ := q
      simp only
      by_cases h3 : 64 ≤ rs.length
      · simp [h3]
      · simp [h3]
/-- The rest without an end of line. -/
theorem asmGo_end (s : List UInt8) (h : Nl s) (n : Int) (ls : List (List UInt8 × Int)) (rs : List (Ins × List UInt8 × Int)) : asmGo s n ls rs = if s ≠ [] then (Prg.zero, n, 8) else finishL ls rs := by
  have hp : ∀ t : List UInt8, Nl t → piecesL t = [t] := by
    intro t
    induction t with
    | nil => intro _; rfl
    | cons c t ih =>
      intro ht
      rw [piecesL, if_neg (ht c List.mem_cons_self), ih fun d hd => ht d (List.mem_cons_of_mem _ hd)]
      rfl
  unfold asmGo
  rw [hp s h]
  simp [asm1]

/-- The second turn, row by row. -/
theorem asm2_skip (ls : List (List UInt8 × Int)) (n : Int) (i : Ins) (row : Int) (more : List (Ins × List UInt8 × Int)) :
    asm2 ls n ((i, [], row) :: more) = match asm2 ls n more with | .inl e => .inl e | .inr l => .inr (i :: l) := by
  simp only [asm2]
  rfl
theorem asm2_name (ls : List (List UInt8 × Int)) (n : Int) (i : Ins) (nm : List UInt8) (hn : nm ≠ []) (row : Int) (more : List (Ins × List UInt8 × Int)) :
    asm2 ls n ((i, nm, row) :: more) = if findL ls nm n < 0 then .inl (row, 10) else match asm2 ls n more with | .inl e => .inl e | .inr l => .inr ({ i with pl := findL ls nm n } :: l) := by
  simp only [asm2]
  rw [if_neg hn]
end Go.Proofs.YthdgehcghklflaaDoor

/- slices.Equal of instructions, asm.Same, the document's Same. -/
namespace Go.Proofs.YthdgehcghklflaaDoor
open Go.ChangeShapes Go.WideShapes Go.ChangeAt Go.RowKit
set_option linter.unusedVariables false

theorem run_neJ (i j : Ins) (w : World) : (binOp .neq 59 (iv i) (iv j)).run Tryd.prog w = .ok (.bool (!eqI i j)) w := by
  unfold iv
  have hu := Tryd.underlying59
  go_simp
  unfold eqI
  repeat' split
  all_goals simp [*]

/-- Two boxes, for a program each. -/
theorem two_boxes (w : World) (t : TypeId) (xs ys : Array Value) : Below w.heap.size w ((w.alloc (.cells xs t)).alloc (.cells ys t)) ∧ Bk ((w.alloc (.cells xs t)).alloc (.cells ys t)) w.heap.size t xs ∧ Bk ((w.alloc (.cells xs t)).alloc (.cells ys t)) (w.heap.size + 1) t ys := by
  have h := Bk.made (w.alloc (.cells xs t)) t ys
  rw [World.size_alloc] at h
  exact ⟨((Below.refl _ _).alloc (Nat.le_refl _) _).alloc (by simp) _, (Bk.made w t xs).alloc _, h⟩

set_option maxHeartbeats 1000000 in
theorem rSame (c d : Prg) (v u : Value) (w : World) (hv : Pv w v c) (hu : Pv w u d) (hl : c.l.length ≤ 100000) :
    Calls Tryd.prog 9 #[v, u] w fun e w' => e = .returned (.bool (sameP c d)) ∧ Below w.heap.size w w' := by
  obtain ⟨a, ca, rfl, _, _, _, ha⟩ := hv
  obtain ⟨b, cb, rfl, _, _, _, hb⟩ := hu
  have HE : Hid (sameP c d = (decide (c.lo = d.lo) && (decide (c.un = d.un) && sameL c.l d.l))) := Lib.hid rfl
  obtain ⟨bb, k1, k2⟩ := two_boxes w 39 #[.slice a c.l.length ca, .int .i64 c.lo, .int .i64 c.un] #[.slice b d.l.length cb, .int .i64 d.lo, .int .i64 d.un]
  replace ha := ha.below bb
  replace hb := hb.below bb
  generalize sameP c d = r at *
  obtain ⟨l, lo, un⟩ := c
  obtain ⟨m, lo2, un2⟩ := d
  simp only at HE bb k1 k2 ha hb hl ⊢
  go_enter Tryd.func9, Tryd.ntmps9
  go_upto_region 1 with fail
  generalize (w.alloc (.cells #[.slice a l.length ca, .int .i64 lo, .int .i64 un] 39)).alloc (.cells #[.slice b m.length cb, .int .i64 lo2, .int .i64 un2] 39) = x at *
  obtain ⟨x0, x1, x2⟩ : x.cell? ⟨w.heap.size, 0, none⟩ = some (.slice a l.length ca) ∧ x.cell? ⟨w.heap.size, 1, none⟩ = some (.int .i64 lo) ∧ x.cell? ⟨w.heap.size, 2, none⟩ = some (.int .i64 un) := ⟨k1.cell 0, k1.cell 1, k1.cell 2⟩
  obtain ⟨y0, y1, y2⟩ : x.cell? ⟨w.heap.size + 1, 0, none⟩ = some (.slice b m.length cb) ∧ x.cell? ⟨w.heap.size + 1, 1, none⟩ = some (.int .i64 lo2) ∧ x.cell? ⟨w.heap.size + 1, 2, none⟩ = some (.int .i64 un2) := ⟨k2.cell 0, k2.cell 1, k2.cell 2⟩
  by_cases hlm : l.length = m.length
  case neg =>
    have hne : ((l.length : Int) != m.length) = true := by simp; omega
    have HS := Lib.hid (sameL_len hlm)
    clear hlm
    go_wp2
    go_ret
    exact ⟨by rw [HE.out, HS.out]; simp, bb⟩
  case pos =>
    have hne : ((l.length : Int) != m.length) = false := by simp; omega
    by_cases h1 : lo = lo2
    case neg =>
      have e1 : (lo != lo2) = true := by simpa using h1
      have H1 := Lib.hid h1
      clear h1
      go_wp2
      go_ret
      exact ⟨by rw [HE.out]; simp [H1.out], bb⟩
    case pos =>
      by_cases h2 : un = un2
      case neg =>
        have e1 : (lo != lo2) = false := by simpa using h1
        have e2 : (un != un2) = true := by simpa using h2
        have H2 := Lib.hid h2
        clear h2 h1
        go_wp2
        go_ret
        exact ⟨by rw [HE.out]; simp [H2.out], bb⟩
      case pos =>
        have HS : Hid (r = sameL (l.drop 0) (m.drop 0)) := Lib.hid (by rw [HE.out]; simp [h1, h2])
        have e1 : (lo != lo2) = false := by simpa using h1
        have e2 : (un != un2) = false := by simpa using h2
        clear HE h1 h2
        go_wp2
        go_loopw [4, 30] (fun q i wr => ∃ k : Nat, q = .bool false ∧ k ≤ l.length ∧ i = .int .i64 k ∧ Below x.heap.size x wr ∧ Hid (r = sameL (l.drop k) (m.drop k))) (fun _ i _ => l.length - (intOf i).toNat)
        case atStart => exact ⟨0, rfl, Nat.zero_le _, rfl, Below.refl _ _, HS⟩
        case round =>
          obtain ⟨k, rfl, hk, rfl, hbw, HR⟩ := hrel
          have z0 : wr.cell? ⟨w.heap.size, 0, none⟩ = some (.slice a l.length ca) := (hbw.cell (p := ⟨w.heap.size, 0, none⟩) k1.lt).trans x0
          have z1 : wr.cell? ⟨w.heap.size + 1, 0, none⟩ = some (.slice b m.length cb) := (hbw.cell (p := ⟨w.heap.size + 1, 0, none⟩) k2.lt).trans y0
          by_cases hlt : k < l.length
          · have hki : (k : Int) < l.length := by omega
            have hkj : (k : Int) < m.length := by omega
            have HD := Lib.hid (sameL_drop l m k hlt (by omega))
            obtain ⟨ba, oa, rfl, _, a0, a1, a2, a3, a4, a5, a6, a7⟩ := (ha.below hbw).at_ (List.getElem?_eq_getElem hlt)
            obtain ⟨bb2, ob, rfl, _, b0, b1, b2, b3, b4, b5, b6, b7⟩ := (hb.below hbw).at_ (List.getElem?_eq_getElem (show k < m.length by omega))
            have hq := run_neJ l[k] m[k]
            generalize l[k] = i at *
            generalize m[k] = j at *
            have HE : Hid (r = (eqI i j && sameL (l.drop (k + 1)) (m.drop (k + 1)))) := Lib.hid (by rw [HR.out, HD.out])
            clear HR HD ha hb x0 x1 x2 y0 y1 y2
            obtain ⟨i0, i1, i2, i3, i4, i5, i6, i7⟩ := i
            obtain ⟨j0, j1, j2, j3, j4, j5, j6, j7⟩ := j
            simp only at a0 a1 a2 a3 a4 a5 a6 a7 b0 b1 b2 b3 b4 b5 b6 b7
            unfold iv at hq
            simp only at hq
            generalize eqI ⟨i0, i1, i2, i3, i4, i5, i6, i7⟩ ⟨j0, j1, j2, j3, j4, j5, j6, j7⟩ = t at *
            have hend := bb.trans (hbw.mono bb.size)
            cases t with
            | true =>
              have HE2 : Hid (r = sameL (l.drop (k + 1)) (m.drop (k + 1))) := Lib.hid (by rw [HE.out]; simp)
              clear HE
              go_wp2
              go_quiet (fail)
              go_wp2
              go_roundw
              case rel => exact ⟨k + 1, rfl, by omega, by go_num, Below.trans hbw ⟨rfl, rfl, rfl, Nat.le_refl _, fun _ _ => rfl⟩, HE2⟩
              case measure =>
                show l.length - ((k : Int) + 1).toNat < l.length - (k : Int).toNat
                omega
            | false =>
              have HE2 : Hid (r = false) := Lib.hid (by rw [HE.out]; simp)
              clear HE
              go_wp2
              go_quiet (fail)
              go_wp2
              go_ret
              exact ⟨by rw [HE2.out]; rfl, Below.trans hend ⟨rfl, rfl, rfl, Nat.le_refl _, fun _ _ => rfl⟩⟩
          · have hki : ¬ (k : Int) < l.length := by omega
            have HE2 : Hid (r = true) := Lib.hid (by rw [HR.out, List.drop_of_length_le (by omega), List.drop_of_length_le (by omega)]; rfl)
            go_wp2
            go_ret
            exact ⟨by rw [HE2.out]; rfl, bb.trans (hbw.mono bb.size)⟩
end Go.Proofs.YthdgehcghklflaaDoor

/- The frame of a law of layer 7: what the listed variables hold, and the world's shape, handed to the walk. -/
namespace Go.Proofs.YthdgehcghklflaaDoor
open Go.Joins Go.ChangeShapes Go.WideShapes Go.ChangeAt Go.RowKit Go.Deep
set_option linter.unusedVariables false

theorem ownA : ownKnob Tryd.prog.godebug = none := by kernel_rfl
theorem laidOutA : laidOutB Tryd.prog = true := by kernel_rfl

theorem star : "*errors.errorString" = "*" ++ "errors.errorString" := by decide
theorem errRow (u : TypeId) (h : Tryd.prog.typeName? 3 u = some "*errors.errorString") : u = 143 :=
  typeName_ptr_named (nm := "errors.errorString") (by rw [← star]; kernel_rfl) (by kernel_rfl) (by decide) u (by rw [← star]; exact h)

/-- What the listed variables hold, and the shape of the world, are what the library's calls read. -/
theorem lb_of {W : World} (hL : laidMet Tryd.prog [("math/bits.deBruijn32tab", Rows.laid_math_bits_deBruijn32tab), ("math/bits.deBruijn64tab", Rows.laid_math_bits_deBruijn64tab), ("internal/strconv.uint64pow10", Rows.laid_internal_strconv_uint64pow10), ("unicode/utf8.acceptRanges", Rows.laid_unicode_utf8_acceptRanges), ("strconv.ErrRange", Rows.laid_strconv_ErrRange), ("strconv.ErrSyntax", Rows.laid_strconv_ErrSyntax), ("unicode/utf8.first", Rows.laid_unicode_utf8_first)] W) (hsh : W.ShapedOpen Tryd.prog) : Lb W := by
  have h2 := hL.tail.tail
  have h4 := h2.tail.tail
  have tab : Lib.TabIs Tryd.prog W "internal/strconv.uint64pow10" .u64 Lib.pow10Tab :=
    Lib.tabIs_of_head (g := 5) (by kernel_rfl) (by kernel_rfl) Tryd.underlying147 Tryd.underlying123 (by kernel_rfl) (by kernel_rfl) h2
  obtain ⟨a1, _, hv1, _⟩ := laid_sentinel h4 (g := 2) (by kernel_rfl) (by kernel_rfl) Tryd.underlying98 (errRow) Tryd.underlying143 Tryd.underlying145 rfl rfl Tryd.underlying9 (by kernel_rfl) (by kernel_rfl)
  obtain ⟨a2, _, hv2, _⟩ := laid_sentinel h4.tail (g := 1) (by kernel_rfl) (by kernel_rfl) Tryd.underlying98 (errRow) Tryd.underlying143 Tryd.underlying145 rfl rfl Tryd.underlying9 (by kernel_rfl) (by kernel_rfl)
  obtain ⟨m, hm⟩ := Tryd.laysM147.s1_3 W hsh
  have c0 : W.cell? ⟨0, 0, none⟩ = some (.int .i64 m) := hm
  have c1 := tab.cell (g := 5) (by kernel_rfl) 0 (by decide)
  have c2 := World.var?_cell (g := 1) (by kernel_rfl) hv2 0
  have c3 := World.var?_cell (g := 2) (by kernel_rfl) hv1 0
  exact ⟨tab, ⟨_, _, hv2⟩, ⟨_, _, hv1⟩, ⟨m, c0⟩, World.block_lt_of_cell? W _ c0, World.block_lt_of_cell? W _ c1, World.block_lt_of_cell? W _ c2, World.block_lt_of_cell? W _ c3⟩

/-- A law's walk, handed what the row lists, and the world's shape beside it. -/
theorem returns_laid {H : Type} {enc : TypeId × Value → H} {a : Assume} {C : Checked} {os : Os} {f : FuncId} {fn : Func} {s : ChangeSpec} {conds : List PathCond} {apart fresh handsOn again : Bool} {X : World → Array Value → Prop}
    (hX : ∀ (w w' : World) (args : Array Value), w.heap = w'.heap → X w args → X w' args)
    (own : ownKnob C.prog.godebug = none) (started : os.Started) (noInit : C.prog.inits.idxOf? f = none) (hfn : C.prog.funcs[f]? = some fn)
    (witness : ∃ (w : World) (tape : Tape) (i : Input), w.os = os ∧ (w.forCall tape i).Shaped C.prog ∧ i.vars = [] ∧ Input.okWide C.prog (w.forCall tape i) .any w.heap.size f i ∧
      ((s.pre enc C.prog fn conds apart (w.forCall tape i).memory i.args ∧ X (w.forCall tape i).memory i.args) ∧ sizedMet enc C.prog fn (OpenSpec.ofChange s) apart (w.forCall tape i).memory i.args) ∧ a.holds C.prog (lone (Frame.enter C.prog f i.args .normal) [] (w.forCall tape i)))
    (walk : ∀ (W : World) (base : Nat) (args : Array Value) (ds gs : List (DataW H)) (before : List MemPlace),
      (∀ (j : Nat) t v, fn.params[j]? = some t → args[j]? = some v → Value.okWide C.prog W .any base t v) →
      DataW.Whole enc C.prog fn.params.toList s.vars apart W args.toList ds gs before → X W args → W.ShapedOpen C.prog →
      Calls C.prog f args W fun e W' => ∃ v, e = .returned v ∧ s.post enc C.prog fn apart fresh handsOn again W args v W') :
    ReturnsInHanded a C os f .any (fun w args => (s.pre enc C.prog fn conds apart w args ∧ X w args) ∧ sizedMet enc C.prog fn (OpenSpec.ofChange s) apart w args) (s.post enc C.prog fn apart fresh handsOn again) := by
  refine returnsInHanded_of_calls own started noInit witness fun w tape i _ hsh _ hok hpre _ => ?_
  obtain ⟨_, _, _, fn', hfn', _, _, _, _, hval⟩ := hok
  obtain rfl : fn' = fn := Option.some.inj (hfn'.symm.trans hfn)
  obtain ⟨⟨⟨ds, gs, before, hw, _⟩, hx⟩, _⟩ := hpre
  refine (walk (w.forCall tape i) w.heap.size i.args ds gs before hval (DataW.Whole.of_heap (by rfl) hw) (hX _ _ _ (by rfl) hx) hsh).mono fun e W' ⟨v, he, hp⟩ => ?_
  subst he
  exact ChangeSpec.post_blind hp
end Go.Proofs.YthdgehcghklflaaDoor

/- A spec, as the program has it and as the document does; the law's Ref of it. -/
namespace Go.Proofs.YthdgehcghklflaaDoor
set_option maxRecDepth 100000
open Go.ChangeShapes Go.WideShapes Go.ChangeAt Go.RowKit
set_option linter.unusedVariables false

/-- The value v is a spec. -/
def Sv (w : World) (v : Value) (c : Prg) (zs init r7 : List Int) (each : Int) : Prop :=
  ∃ aL cL aS cS aI cI aR cR, v = .agg #[.slice aL c.l.length cL, .int .i64 c.lo, .int .i64 c.un, .slice aS zs.length cS, .slice aI init.length cI, .int .i64 each, .slice aR r7.length cR] ∧
    Pv w (.agg #[.slice aL c.l.length cL, .int .i64 c.lo, .int .i64 c.un]) c ∧ Given .i64 w aS zs ∧ Given .u32 w aI init ∧ Given .u32 w aR r7 ∧ zs.length ≤ maxLen ∧ init.length ≤ maxLen ∧ r7.length ≤ maxLen
theorem Given.below {k : IntKind} {w w' : World} {a : Option Addr} {xs : List Int} (h : Given k w a xs) (hb : Below w.heap.size w w') : Given k w' a xs := by
  intro h0
  obtain ⟨b, off, e, hlt, hc⟩ := h h0
  exact ⟨b, off, e, Nat.lt_of_lt_of_le hlt hb.size, fun i hi => (hb.cell (p := ⟨b, off + i, none⟩) hlt).trans (hc i hi)⟩
theorem Sv.below {w w' : World} {v : Value} {c : Prg} {zs init r7 : List Int} {each : Int} (h : Sv w v c zs init r7 each) (hb : Below w.heap.size w w') : Sv w' v c zs init r7 each := by
  obtain ⟨aL, cL, aS, cS, aI, cI, aR, cR, e, h1, h2, h3, h4, h5⟩ := h
  exact ⟨aL, cL, aS, cS, aI, cI, aR, cR, e, h1.below hb, h2.below hb, h3.below hb, h4.below hb, h5⟩

theorem own_below {W W' : World} {base n sz : Nat} {t : TypeId} {v : Value} {xs : List Value} (h : W.ownsRow base t sz v n xs) (hb : Below W.heap.size W W') : W'.ownsRow base t sz v n xs := own_within h (within_of_below hb) (by simp)

/-- A row isn't where a block of another type has changed. -/
theorem own_safe {W W' : World} {base n sz b : Nat} {t u : TypeId} {v : Value} {xs : List Value} {cs : Array Value} (h : W.ownsRow base t sz v n xs) (hw : Within W W' (fun i => i = b)) (hb : Bk W b u cs) (hne : t ≠ u) : W'.ownsRow base t sz v n xs :=
  own_within h hw fun g e e2 => by
    obtain ⟨cs', hcs⟩ := own_bk h e
    exact Bk.unlike hcs hb hne e2
/-- Seven cells of a block are others. -/
def put7 (y : World) (g : Nat) (a b c d e f h : Value) : World := ((((((y.setCell ⟨g, 0, none⟩ a).setCell ⟨g, 1, none⟩ b).setCell ⟨g, 2, none⟩ c).setCell ⟨g, 3, none⟩ d).setCell ⟨g, 4, none⟩ e).setCell ⟨g, 5, none⟩ f).setCell ⟨g, 6, none⟩ h
theorem put7_bk {y : World} {g : Nat} {t : TypeId} {x0 x1 x2 x3 x4 x5 x6 : Value} (hb : Bk y g t #[x0, x1, x2, x3, x4, x5, x6]) (a b c d e f h : Value) : Bk (put7 y g a b c d e f h) g t #[a, b, c, d, e, f, h] := by
  have h8 := ((((((hb.put 0 a).put 1 b).put 2 c).put 3 d).put 4 e).put 5 f).put 6 h
  unfold put7
  simpa only [List.setIfInBounds_toArray, List.set_cons_zero, List.set_cons_succ] using h8
theorem put7_within {y : World} {g : Nat} (a b c d e f h : Value) : Within y (put7 y g a b c d e f h) (fun i => i = g) := by
  unfold put7
  exact (((((((Within.refl y (fun i => i = g)).put g 0 a (.inl rfl)).put g 1 b (.inl rfl)).put g 2 c (.inl rfl)).put g 3 d (.inl rfl)).put g 4 e (.inl rfl)).put g 5 f (.inl rfl)).put g 6 h (.inl rfl)
theorem put7_below {B : Nat} {w y : World} {g : Nat} (hb : Below B w y) (hg : B ≤ g) (a b c d e f h : Value) : Below B w (put7 y g a b c d e f h) :=
  ((((((hb.setCell hg _).setCell hg _).setCell hg _).setCell hg _).setCell hg _).setCell hg _).setCell hg _

/-- The value v is the document's spec; its program lies in a row of its own, at base or beyond. -/
def Rv (base : Nat) (w : World) (v : Value) (c : Prg) (zs init r7 : List Int) (each : Int) : Prop :=
  ∃ sl aS cS aI cI aR cR, v = .agg #[sl, .int .i64 c.lo, .int .i64 c.un, .slice aS zs.length cS, .slice aI init.length cI, .int .i64 each, .slice aR r7.length cR] ∧
    w.ownsRow base 59 8 sl c.l.length (progC c.l) ∧ Given .i64 w aS zs ∧ Given .u32 w aI init ∧ Given .u32 w aR r7 ∧ zs.length ≤ maxLen ∧ init.length ≤ maxLen ∧ r7.length ≤ maxLen
theorem Rv.below {base : Nat} {w w' : World} {v : Value} {c : Prg} {zs init r7 : List Int} {each : Int} (h : Rv base w v c zs init r7 each) (hb : Below w.heap.size w w') : Rv base w' v c zs init r7 each := by
  obtain ⟨sl, aS, cS, aI, cI, aR, cR, e, h1, h2, h3, h4, h5⟩ := h
  exact ⟨sl, aS, cS, aI, cI, aR, cR, e, own_below h1 hb, h2.below hb, h3.below hb, h4.below hb, h5⟩

set_option maxHeartbeats 1000000 in
theorem lRef10 {w : World} {v : Value} {c : Prg} {zs init r7 : List Int} {each : Int} (hv : Sv w v c zs init r7 each) (hc : c.l.length ≤ 1000) :
    Calls Tryd.prog 7 #[v] w fun e w' => ∃ v', e = .returned v' ∧ Rv w.heap.size w' v' c zs init r7 each ∧ Below w.heap.size w w' := by
  obtain ⟨aL, cL, aS, cS, aI, cI, aR, cR, rfl, hpv, hgS, hgI, hgR, hm1, hm2, hm3⟩ := hv
  have q0 := (Bk.made w 31 #[.slice aL c.l.length cL, .int .i64 c.lo, .int .i64 c.un, .slice aS zs.length cS, .slice aI init.length cI, .int .i64 each, .slice aR r7.length cR]).alloc (.cells #[.slice none 0 0, .int .i64 0, .int .i64 0, .slice none 0 0, .slice none 0 0, .int .i64 0, .slice none 0 0] 41)
  have q1 := Bk.made (w.alloc (.cells #[.slice aL c.l.length cL, .int .i64 c.lo, .int .i64 c.un, .slice aS zs.length cS, .slice aI init.length cI, .int .i64 each, .slice aR r7.length cR] 31)) 41 #[.slice none 0 0, .int .i64 0, .int .i64 0, .slice none 0 0, .slice none 0 0, .int .i64 0, .slice none 0 0]
  rw [World.size_alloc] at q1
  have b0 : Below w.heap.size w ((w.alloc (.cells #[.slice aL c.l.length cL, .int .i64 c.lo, .int .i64 c.un, .slice aS zs.length cS, .slice aI init.length cI, .int .i64 each, .slice aR r7.length cR] 31)).alloc (.cells #[.slice none 0 0, .int .i64 0, .int .i64 0, .slice none 0 0, .slice none 0 0, .int .i64 0, .slice none 0 0] 41)) := ((Below.refl _ _).alloc (Nat.le_refl _) _).alloc (by simp) _
  go_enter Tryd.func7, Tryd.ntmps7
  go_upto_region 1 with fail
  generalize (w.alloc (.cells #[.slice aL c.l.length cL, .int .i64 c.lo, .int .i64 c.un, .slice aS zs.length cS, .slice aI init.length cI, .int .i64 each, .slice aR r7.length cR] 31)).alloc (.cells #[.slice none 0 0, .int .i64 0, .int .i64 0, .slice none 0 0, .slice none 0 0, .int .i64 0, .slice none 0 0] 41) = y at *
  have HRF := Lib.hid (fun W (hW : Below w.heap.size w W) => lRefO c _ W (hpv.below hW) hc)
  have kx : ∀ (W : World) (u : Value) (i j : Nat), (W.setCell ⟨w.heap.size + 1, i, none⟩ u).cell? ⟨w.heap.size, j, none⟩ = W.cell? ⟨w.heap.size, j, none⟩ := fun W u i j => cell_off (by omega)
  have HQ : Hid (∀ W, Below y.heap.size y W → Bk W w.heap.size 31 _ ∧ Bk W (w.heap.size + 1) 41 _ ∧ Below w.heap.size w W) := Lib.hid fun W hW => ⟨(hW.block _ q0.lt).trans q0, (hW.block _ q1.lt).trans q1, b0.trans (hW.mono b0.size)⟩
  obtain ⟨f0, f1, f2, f3, f4, f5, f6⟩ : y.cell? ⟨w.heap.size, 0, none⟩ = some (.slice aL c.l.length cL) ∧ y.cell? ⟨w.heap.size, 1, none⟩ = some (.int .i64 c.lo) ∧ y.cell? ⟨w.heap.size, 2, none⟩ = some (.int .i64 c.un) ∧ y.cell? ⟨w.heap.size, 3, none⟩ = some (.slice aS zs.length cS) ∧ y.cell? ⟨w.heap.size, 4, none⟩ = some (.slice aI init.length cI) ∧ y.cell? ⟨w.heap.size, 5, none⟩ = some (.int .i64 each) ∧ y.cell? ⟨w.heap.size, 6, none⟩ = some (.slice aR r7.length cR) := ⟨q0.cell 0, q0.cell 1, q0.cell 2, q0.cell 3, q0.cell 4, q0.cell 5, q0.cell 6⟩
  refine wp_region_flow [12] (fun j W => match j with | 0 => Below y.heap.size y W | _ => ∃ sl, W.ownsRow w.heap.size 59 8 sl c.l.length (progC c.l) ∧ Bk W (w.heap.size + 1) 41 #[sl, .int .i64 c.lo, .int .i64 c.un, .slice aS zs.length cS, .slice aI init.length cI, .int .i64 each, .slice aR r7.length cR] ∧ Below w.heap.size w W) (fun _ W W2 => Within W W2 (fun i => i = w.heap.size + 1) ∧ Bk W (w.heap.size + 1) 41 #[.slice none 0 0, .int .i64 0, .int .i64 0, .slice none 0 0, .slice none 0 0, .int .i64 0, .slice none 0 0]) (fun vs => { tmps := #[.agg #[.slice aL c.l.length cL, .int .i64 c.lo, .int .i64 c.un, .slice aS zs.length cS, .slice aI init.length cI, .int .i64 each, .slice aR r7.length cR], .pointer (some ⟨w.heap.size, 0, none⟩), .pointer (some ⟨w.heap.size + 1, 0, none⟩), vs 0, vs 1, vs 2, vs 3, vs 4, vs 5, vs 6, vs 7, vs 8, vs 9, vs 10, vs 11], defers := [] }) (mixT [(2, (fun v W => ∃ sl, v = .agg #[sl, .int .i64 c.lo, .int .i64 c.un] ∧ W.ownsRow w.heap.size 59 8 sl c.l.length (progC c.l))), (11, (fun v W => ∃ sl, v = .agg #[sl, .int .i64 c.lo, .int .i64 c.un, .slice aS zs.length cS, .slice aI init.length cI, .int .i64 each, .slice aR r7.length cR] ∧ W.ownsRow w.heap.size 59 8 sl c.l.length (progC c.l)))] [.pointer (some ⟨w.heap.size, 0, none⟩), .agg #[.slice aL c.l.length cL, .int .i64 c.lo, .int .i64 c.un], undef, .pointer (some ⟨w.heap.size, 3, none⟩), .slice aS zs.length cS, .pointer (some ⟨w.heap.size, 4, none⟩), .slice aI init.length cI, .pointer (some ⟨w.heap.size, 5, none⟩), .int .i64 each, .pointer (some ⟨w.heap.size, 6, none⟩), .slice aR r7.length cR, undef, undef]) ?ghm ?ghr ?ghc ?ghnd ?ghlit ?gh0 ?ghW ?ghF ?ghS ?gops ?gdone
  case ghm => kernel_rfl
  case ghr => kernel_rfl
  case ghc => kernel_rfl
  case ghnd => decide
  case ghlit => intro vs; rfl
  case gh0 => exact Below.refl _ _
  case ghW => exact fun kk W W2 h hb => match kk, h with
    | 0, h => h.trans (hb.mono h.size)
    | _ + 1, ⟨sl, h1, h2, h3⟩ => ⟨sl, own_below h1 hb, (hb.block _ h2.lt).trans h2, h3.trans (hb.mono h3.size)⟩
  case ghF => exact mixT_stable (by
    intro p0 hp
    simp only [List.mem_cons, List.not_mem_nil, or_false] at hp
    rcases hp with rfl | rfl
    · rintro v W W2 ⟨sl, e, h⟩ hb; exact ⟨sl, e, own_below h hb⟩
    · rintro v W W2 ⟨sl, e, h⟩ hb; exact ⟨sl, e, own_below h hb⟩)
  case ghS => exact fun kk W W2 _ hs i v h => mixT_keep (R := fun W W2 => Within W W2 (fun i => i = w.heap.size + 1) ∧ Bk W (w.heap.size + 1) 41 #[.slice none 0 0, .int .i64 0, .int .i64 0, .slice none 0 0, .slice none 0 0, .int .i64 0, .slice none 0 0]) (ps := [(2, (fun v W => ∃ sl, v = .agg #[sl, .int .i64 c.lo, .int .i64 c.un] ∧ W.ownsRow w.heap.size 59 8 sl c.l.length (progC c.l))), (11, (fun v W => ∃ sl, v = .agg #[sl, .int .i64 c.lo, .int .i64 c.un, .slice aS zs.length cS, .slice aI init.length cI, .int .i64 each, .slice aR r7.length cR] ∧ W.ownsRow w.heap.size 59 8 sl c.l.length (progC c.l)))]) (l := [.pointer (some ⟨w.heap.size, 0, none⟩), .agg #[.slice aL c.l.length cL, .int .i64 c.lo, .int .i64 c.un], undef, .pointer (some ⟨w.heap.size, 3, none⟩), .slice aS zs.length cS, .pointer (some ⟨w.heap.size, 4, none⟩), .slice aI init.length cI, .pointer (some ⟨w.heap.size, 5, none⟩), .int .i64 each, .pointer (some ⟨w.heap.size, 6, none⟩), .slice aR r7.length cR, undef, undef]) (by
    intro p0 hp
    simp only [List.mem_cons, List.not_mem_nil, or_false] at hp
    rcases hp with rfl | rfl
    · rintro v W W2 ⟨sl, e, h⟩ hs; exact ⟨sl, e, own_safe h hs.1 hs.2 (by decide)⟩
    · rintro v W W2 ⟨sl, e, h⟩ hs; exact ⟨sl, e, own_safe h hs.1 hs.2 (by decide)⟩) i v W W2 h hs
  case gops =>
    refine ⟨?_, ?_, ?_, ?_, ?_, ?_, ?_, ?_, ?_, ?_, ?_, ?_, ?_, trivial⟩
    · intro vs W kk h1 h2 hW hd
      obtain rfl : kk = 0 := Nat.le_zero.1 h2
      refine leaves_free rfl ?_
      clear hd
      go_simp
      exact ⟨rfl, Below.refl _ _⟩
    · intro vs W kk h1 h2 hW hd
      obtain rfl : kk = 0 := Nat.le_zero.1 h2
      refine leaves_free rfl ?_
      have e0 : vs 0 = .pointer (some ⟨w.heap.size, 0, none⟩) := hd 0 (by decide)
      have hq := (HQ.out W hW).1; obtain ⟨f0, f1, f2, f3, f4, f5, f6⟩ : W.cell? ⟨w.heap.size, 0, none⟩ = some (.slice aL c.l.length cL) ∧ W.cell? ⟨w.heap.size, 1, none⟩ = some (.int .i64 c.lo) ∧ W.cell? ⟨w.heap.size, 2, none⟩ = some (.int .i64 c.un) ∧ W.cell? ⟨w.heap.size, 3, none⟩ = some (.slice aS zs.length cS) ∧ W.cell? ⟨w.heap.size, 4, none⟩ = some (.slice aI init.length cI) ∧ W.cell? ⟨w.heap.size, 5, none⟩ = some (.int .i64 each) ∧ W.cell? ⟨w.heap.size, 6, none⟩ = some (.slice aR r7.length cR) := ⟨hq.cell 0, hq.cell 1, hq.cell 2, hq.cell 3, hq.cell 4, hq.cell 5, hq.cell 6⟩; have hr := (HQ.out W hW).2.1; obtain ⟨z0, z1, z2, z3, z4, z5, z6⟩ : W.cell? ⟨w.heap.size + 1, 0, none⟩ = some (.slice none 0 0) ∧ W.cell? ⟨w.heap.size + 1, 1, none⟩ = some (.int .i64 0) ∧ W.cell? ⟨w.heap.size + 1, 2, none⟩ = some (.int .i64 0) ∧ W.cell? ⟨w.heap.size + 1, 3, none⟩ = some (.slice none 0 0) ∧ W.cell? ⟨w.heap.size + 1, 4, none⟩ = some (.slice none 0 0) ∧ W.cell? ⟨w.heap.size + 1, 5, none⟩ = some (.int .i64 0) ∧ W.cell? ⟨w.heap.size + 1, 6, none⟩ = some (.slice none 0 0) := ⟨hr.cell 0, hr.cell 1, hr.cell 2, hr.cell 3, hr.cell 4, hr.cell 5, hr.cell 6⟩; have zf := Bk.free hr; clear hq
      clear hd
      go_simp
      exact ⟨rfl, Below.refl _ _⟩
    · intro vs W kk h1 h2 hW hd
      obtain rfl : kk = 0 := Nat.le_zero.1 h2
      refine leaves_free rfl ?_
      have e1 : vs 1 = .agg #[.slice aL c.l.length cL, .int .i64 c.lo, .int .i64 c.un] := hd 1 (by decide)
      have HS := Lib.hid (HRF.out W (HQ.out W hW).2.2)
      have hsz := (HQ.out W hW).2.2.size
      clear hd
      go_simp
      refine HS.out.mono ?_
      rintro e zz ⟨sl, he, ho, hb⟩
      exact ⟨_, he, ⟨sl, rfl, World.ownsRow.mono (base' := w.heap.size) ho hsz⟩, hb⟩
    · intro vs W kk h1 h2 hW hd
      obtain rfl : kk = 0 := Nat.le_zero.1 h2
      refine leaves_free rfl ?_
      clear hd
      go_simp
      exact ⟨rfl, Below.refl _ _⟩
    · intro vs W kk h1 h2 hW hd
      obtain rfl : kk = 0 := Nat.le_zero.1 h2
      refine leaves_free rfl ?_
      have e3 : vs 3 = .pointer (some ⟨w.heap.size, 3, none⟩) := hd 3 (by decide)
      have hq := (HQ.out W hW).1; obtain ⟨f0, f1, f2, f3, f4, f5, f6⟩ : W.cell? ⟨w.heap.size, 0, none⟩ = some (.slice aL c.l.length cL) ∧ W.cell? ⟨w.heap.size, 1, none⟩ = some (.int .i64 c.lo) ∧ W.cell? ⟨w.heap.size, 2, none⟩ = some (.int .i64 c.un) ∧ W.cell? ⟨w.heap.size, 3, none⟩ = some (.slice aS zs.length cS) ∧ W.cell? ⟨w.heap.size, 4, none⟩ = some (.slice aI init.length cI) ∧ W.cell? ⟨w.heap.size, 5, none⟩ = some (.int .i64 each) ∧ W.cell? ⟨w.heap.size, 6, none⟩ = some (.slice aR r7.length cR) := ⟨hq.cell 0, hq.cell 1, hq.cell 2, hq.cell 3, hq.cell 4, hq.cell 5, hq.cell 6⟩; have hr := (HQ.out W hW).2.1; obtain ⟨z0, z1, z2, z3, z4, z5, z6⟩ : W.cell? ⟨w.heap.size + 1, 0, none⟩ = some (.slice none 0 0) ∧ W.cell? ⟨w.heap.size + 1, 1, none⟩ = some (.int .i64 0) ∧ W.cell? ⟨w.heap.size + 1, 2, none⟩ = some (.int .i64 0) ∧ W.cell? ⟨w.heap.size + 1, 3, none⟩ = some (.slice none 0 0) ∧ W.cell? ⟨w.heap.size + 1, 4, none⟩ = some (.slice none 0 0) ∧ W.cell? ⟨w.heap.size + 1, 5, none⟩ = some (.int .i64 0) ∧ W.cell? ⟨w.heap.size + 1, 6, none⟩ = some (.slice none 0 0) := ⟨hr.cell 0, hr.cell 1, hr.cell 2, hr.cell 3, hr.cell 4, hr.cell 5, hr.cell 6⟩; have zf := Bk.free hr; clear hq
      clear hd
      go_simp
      exact ⟨rfl, Below.refl _ _⟩
    · intro vs W kk h1 h2 hW hd
      obtain rfl : kk = 0 := Nat.le_zero.1 h2
      refine leaves_free rfl ?_
      clear hd
      go_simp
      exact ⟨rfl, Below.refl _ _⟩
    · intro vs W kk h1 h2 hW hd
      obtain rfl : kk = 0 := Nat.le_zero.1 h2
      refine leaves_free rfl ?_
      have e5 : vs 5 = .pointer (some ⟨w.heap.size, 4, none⟩) := hd 5 (by decide)
      have hq := (HQ.out W hW).1; obtain ⟨f0, f1, f2, f3, f4, f5, f6⟩ : W.cell? ⟨w.heap.size, 0, none⟩ = some (.slice aL c.l.length cL) ∧ W.cell? ⟨w.heap.size, 1, none⟩ = some (.int .i64 c.lo) ∧ W.cell? ⟨w.heap.size, 2, none⟩ = some (.int .i64 c.un) ∧ W.cell? ⟨w.heap.size, 3, none⟩ = some (.slice aS zs.length cS) ∧ W.cell? ⟨w.heap.size, 4, none⟩ = some (.slice aI init.length cI) ∧ W.cell? ⟨w.heap.size, 5, none⟩ = some (.int .i64 each) ∧ W.cell? ⟨w.heap.size, 6, none⟩ = some (.slice aR r7.length cR) := ⟨hq.cell 0, hq.cell 1, hq.cell 2, hq.cell 3, hq.cell 4, hq.cell 5, hq.cell 6⟩; have hr := (HQ.out W hW).2.1; obtain ⟨z0, z1, z2, z3, z4, z5, z6⟩ : W.cell? ⟨w.heap.size + 1, 0, none⟩ = some (.slice none 0 0) ∧ W.cell? ⟨w.heap.size + 1, 1, none⟩ = some (.int .i64 0) ∧ W.cell? ⟨w.heap.size + 1, 2, none⟩ = some (.int .i64 0) ∧ W.cell? ⟨w.heap.size + 1, 3, none⟩ = some (.slice none 0 0) ∧ W.cell? ⟨w.heap.size + 1, 4, none⟩ = some (.slice none 0 0) ∧ W.cell? ⟨w.heap.size + 1, 5, none⟩ = some (.int .i64 0) ∧ W.cell? ⟨w.heap.size + 1, 6, none⟩ = some (.slice none 0 0) := ⟨hr.cell 0, hr.cell 1, hr.cell 2, hr.cell 3, hr.cell 4, hr.cell 5, hr.cell 6⟩; have zf := Bk.free hr; clear hq
      clear hd
      go_simp
      exact ⟨rfl, Below.refl _ _⟩
    · intro vs W kk h1 h2 hW hd
      obtain rfl : kk = 0 := Nat.le_zero.1 h2
      refine leaves_free rfl ?_
      clear hd
      go_simp
      exact ⟨rfl, Below.refl _ _⟩
    · intro vs W kk h1 h2 hW hd
      obtain rfl : kk = 0 := Nat.le_zero.1 h2
      refine leaves_free rfl ?_
      have e7 : vs 7 = .pointer (some ⟨w.heap.size, 5, none⟩) := hd 7 (by decide)
      have hq := (HQ.out W hW).1; obtain ⟨f0, f1, f2, f3, f4, f5, f6⟩ : W.cell? ⟨w.heap.size, 0, none⟩ = some (.slice aL c.l.length cL) ∧ W.cell? ⟨w.heap.size, 1, none⟩ = some (.int .i64 c.lo) ∧ W.cell? ⟨w.heap.size, 2, none⟩ = some (.int .i64 c.un) ∧ W.cell? ⟨w.heap.size, 3, none⟩ = some (.slice aS zs.length cS) ∧ W.cell? ⟨w.heap.size, 4, none⟩ = some (.slice aI init.length cI) ∧ W.cell? ⟨w.heap.size, 5, none⟩ = some (.int .i64 each) ∧ W.cell? ⟨w.heap.size, 6, none⟩ = some (.slice aR r7.length cR) := ⟨hq.cell 0, hq.cell 1, hq.cell 2, hq.cell 3, hq.cell 4, hq.cell 5, hq.cell 6⟩; have hr := (HQ.out W hW).2.1; obtain ⟨z0, z1, z2, z3, z4, z5, z6⟩ : W.cell? ⟨w.heap.size + 1, 0, none⟩ = some (.slice none 0 0) ∧ W.cell? ⟨w.heap.size + 1, 1, none⟩ = some (.int .i64 0) ∧ W.cell? ⟨w.heap.size + 1, 2, none⟩ = some (.int .i64 0) ∧ W.cell? ⟨w.heap.size + 1, 3, none⟩ = some (.slice none 0 0) ∧ W.cell? ⟨w.heap.size + 1, 4, none⟩ = some (.slice none 0 0) ∧ W.cell? ⟨w.heap.size + 1, 5, none⟩ = some (.int .i64 0) ∧ W.cell? ⟨w.heap.size + 1, 6, none⟩ = some (.slice none 0 0) := ⟨hr.cell 0, hr.cell 1, hr.cell 2, hr.cell 3, hr.cell 4, hr.cell 5, hr.cell 6⟩; have zf := Bk.free hr; clear hq
      clear hd
      go_simp
      exact ⟨rfl, Below.refl _ _⟩
    · intro vs W kk h1 h2 hW hd
      obtain rfl : kk = 0 := Nat.le_zero.1 h2
      refine leaves_free rfl ?_
      clear hd
      go_simp
      exact ⟨rfl, Below.refl _ _⟩
    · intro vs W kk h1 h2 hW hd
      obtain rfl : kk = 0 := Nat.le_zero.1 h2
      refine leaves_free rfl ?_
      have e9 : vs 9 = .pointer (some ⟨w.heap.size, 6, none⟩) := hd 9 (by decide)
      have hq := (HQ.out W hW).1; obtain ⟨f0, f1, f2, f3, f4, f5, f6⟩ : W.cell? ⟨w.heap.size, 0, none⟩ = some (.slice aL c.l.length cL) ∧ W.cell? ⟨w.heap.size, 1, none⟩ = some (.int .i64 c.lo) ∧ W.cell? ⟨w.heap.size, 2, none⟩ = some (.int .i64 c.un) ∧ W.cell? ⟨w.heap.size, 3, none⟩ = some (.slice aS zs.length cS) ∧ W.cell? ⟨w.heap.size, 4, none⟩ = some (.slice aI init.length cI) ∧ W.cell? ⟨w.heap.size, 5, none⟩ = some (.int .i64 each) ∧ W.cell? ⟨w.heap.size, 6, none⟩ = some (.slice aR r7.length cR) := ⟨hq.cell 0, hq.cell 1, hq.cell 2, hq.cell 3, hq.cell 4, hq.cell 5, hq.cell 6⟩; have hr := (HQ.out W hW).2.1; obtain ⟨z0, z1, z2, z3, z4, z5, z6⟩ : W.cell? ⟨w.heap.size + 1, 0, none⟩ = some (.slice none 0 0) ∧ W.cell? ⟨w.heap.size + 1, 1, none⟩ = some (.int .i64 0) ∧ W.cell? ⟨w.heap.size + 1, 2, none⟩ = some (.int .i64 0) ∧ W.cell? ⟨w.heap.size + 1, 3, none⟩ = some (.slice none 0 0) ∧ W.cell? ⟨w.heap.size + 1, 4, none⟩ = some (.slice none 0 0) ∧ W.cell? ⟨w.heap.size + 1, 5, none⟩ = some (.int .i64 0) ∧ W.cell? ⟨w.heap.size + 1, 6, none⟩ = some (.slice none 0 0) := ⟨hr.cell 0, hr.cell 1, hr.cell 2, hr.cell 3, hr.cell 4, hr.cell 5, hr.cell 6⟩; have zf := Bk.free hr; clear hq
      clear hd
      go_simp
      exact ⟨rfl, Below.refl _ _⟩
    · intro vs W kk h1 h2 hW hd
      obtain rfl : kk = 0 := Nat.le_zero.1 h2
      refine leaves_free rfl ?_
      have e4 : vs 4 = .slice aS zs.length cS := hd 4 (by decide)
      have e6 : vs 6 = .slice aI init.length cI := hd 6 (by decide)
      have e8 : vs 8 = .int .i64 each := hd 8 (by decide)
      have e10 : vs 10 = .slice aR r7.length cR := hd 10 (by decide)
      obtain ⟨sl, e2, ho⟩ : ∃ sl, vs 2 = .agg #[sl, .int .i64 c.lo, .int .i64 c.un] ∧ W.ownsRow w.heap.size 59 8 sl c.l.length (progC c.l) := hd 2 (by decide)
      clear hd
      go_simp
      exact ⟨⟨sl, rfl, ho⟩, Below.refl _ _⟩
    · intro vs W hW hd
      obtain ⟨sl, e11, ho⟩ : ∃ sl, vs 11 = .agg #[sl, .int .i64 c.lo, .int .i64 c.un, .slice aS zs.length cS, .slice aI init.length cI, .int .i64 each, .slice aR r7.length cR] ∧ W.ownsRow w.heap.size 59 8 sl c.l.length (progC c.l) := hd 11 (by decide)
      obtain ⟨aL9, cL9, rfl, -⟩ := own_is ho
      have hq := (HQ.out W hW).1; obtain ⟨f0, f1, f2, f3, f4, f5, f6⟩ : W.cell? ⟨w.heap.size, 0, none⟩ = some (.slice aL c.l.length cL) ∧ W.cell? ⟨w.heap.size, 1, none⟩ = some (.int .i64 c.lo) ∧ W.cell? ⟨w.heap.size, 2, none⟩ = some (.int .i64 c.un) ∧ W.cell? ⟨w.heap.size, 3, none⟩ = some (.slice aS zs.length cS) ∧ W.cell? ⟨w.heap.size, 4, none⟩ = some (.slice aI init.length cI) ∧ W.cell? ⟨w.heap.size, 5, none⟩ = some (.int .i64 each) ∧ W.cell? ⟨w.heap.size, 6, none⟩ = some (.slice aR r7.length cR) := ⟨hq.cell 0, hq.cell 1, hq.cell 2, hq.cell 3, hq.cell 4, hq.cell 5, hq.cell 6⟩; have hr := (HQ.out W hW).2.1; obtain ⟨z0, z1, z2, z3, z4, z5, z6⟩ : W.cell? ⟨w.heap.size + 1, 0, none⟩ = some (.slice none 0 0) ∧ W.cell? ⟨w.heap.size + 1, 1, none⟩ = some (.int .i64 0) ∧ W.cell? ⟨w.heap.size + 1, 2, none⟩ = some (.int .i64 0) ∧ W.cell? ⟨w.heap.size + 1, 3, none⟩ = some (.slice none 0 0) ∧ W.cell? ⟨w.heap.size + 1, 4, none⟩ = some (.slice none 0 0) ∧ W.cell? ⟨w.heap.size + 1, 5, none⟩ = some (.int .i64 0) ∧ W.cell? ⟨w.heap.size + 1, 6, none⟩ = some (.slice none 0 0) := ⟨hr.cell 0, hr.cell 1, hr.cell 2, hr.cell 3, hr.cell 4, hr.cell 5, hr.cell 6⟩; have zf := Bk.free hr; clear hq
      refine leavesIf_free rfl ?_
      clear hd
      go_simp
      exact ⟨rfl, ⟨.slice aL9 c.l.length cL9, own_safe ho (put7_within (y := W) (g := w.heap.size + 1) (.slice aL9 c.l.length cL9) (.int .i64 c.lo) (.int .i64 c.un) (.slice aS zs.length cS) (.slice aI init.length cI) (.int .i64 each) (.slice aR r7.length cR)) hr (by decide), put7_bk hr (.slice aL9 c.l.length cL9) (.int .i64 c.lo) (.int .i64 c.un) (.slice aS zs.length cS) (.slice aI init.length cI) (.int .i64 each) (.slice aR r7.length cR), put7_below (HQ.out W hW).2.2 (by omega) (.slice aL9 c.l.length cL9) (.int .i64 c.lo) (.int .i64 c.un) (.slice aS zs.length cS) (.slice aI init.length cI) (.int .i64 each) (.slice aR r7.length cR)⟩, put7_within (y := W) (g := w.heap.size + 1) (.slice aL9 c.l.length cL9) (.int .i64 c.lo) (.int .i64 c.un) (.slice aS zs.length cS) (.slice aI init.length cI) (.int .i64 each) (.slice aR r7.length cR)⟩
  case gdone =>
    intro vs W hW hf
    have f0 : vs 0 = .pointer (some ⟨w.heap.size, 0, none⟩) := hf 0 (by decide)
    have f1 : vs 1 = .agg #[.slice aL c.l.length cL, .int .i64 c.lo, .int .i64 c.un] := hf 1 (by decide)
    have f3 : vs 3 = .pointer (some ⟨w.heap.size, 3, none⟩) := hf 3 (by decide)
    have f4 : vs 4 = .slice aS zs.length cS := hf 4 (by decide)
    have f5 : vs 5 = .pointer (some ⟨w.heap.size, 4, none⟩) := hf 5 (by decide)
    have f6 : vs 6 = .slice aI init.length cI := hf 6 (by decide)
    have f7 : vs 7 = .pointer (some ⟨w.heap.size, 5, none⟩) := hf 7 (by decide)
    have f8 : vs 8 = .int .i64 each := hf 8 (by decide)
    have f9 : vs 9 = .pointer (some ⟨w.heap.size, 6, none⟩) := hf 9 (by decide)
    have f10 : vs 10 = .slice aR r7.length cR := hf 10 (by decide)
    simp only [f0, f1, f3, f4, f5, f6, f7, f8, f9, f10]
    clear f0 f1 f3 f4 f5 f6 f7 f8 f9 f10
    obtain ⟨sl, ho, hB, hb⟩ : ∃ sl, W.ownsRow w.heap.size 59 8 sl c.l.length (progC c.l) ∧ Bk W (w.heap.size + 1) 41 #[sl, .int .i64 c.lo, .int .i64 c.un, .slice aS zs.length cS, .slice aI init.length cI, .int .i64 each, .slice aR r7.length cR] ∧ Below w.heap.size w W := hW
    clear hf HQ HRF kx f0 f1 f2 f3 f4 f5 f6 q0 q1
    obtain ⟨f0, f1, f2, f3, f4, f5, f6⟩ : W.cell? ⟨w.heap.size + 1, 0, none⟩ = some sl ∧ W.cell? ⟨w.heap.size + 1, 1, none⟩ = some (.int .i64 c.lo) ∧ W.cell? ⟨w.heap.size + 1, 2, none⟩ = some (.int .i64 c.un) ∧ W.cell? ⟨w.heap.size + 1, 3, none⟩ = some (.slice aS zs.length cS) ∧ W.cell? ⟨w.heap.size + 1, 4, none⟩ = some (.slice aI init.length cI) ∧ W.cell? ⟨w.heap.size + 1, 5, none⟩ = some (.int .i64 each) ∧ W.cell? ⟨w.heap.size + 1, 6, none⟩ = some (.slice aR r7.length cR) := ⟨hB.cell 0, hB.cell 1, hB.cell 2, hB.cell 3, hB.cell 4, hB.cell 5, hB.cell 6⟩
    go_wp
    exact bodyPost_ret (v := .agg #[sl, .int .i64 c.lo, .int .i64 c.un, .slice aS zs.length cS, .slice aI init.length cI, .int .i64 each, .slice aR r7.length cR]) (by simp [results, Tryd.results7, go_sem, f0, f1, f2, f3, f4, f5, f6]) rfl ⟨_, rfl, ⟨sl, aS, cS, aI, cI, aR, cR, rfl, ho, hgS.below hb, hgI.below hb, hgR.below hb, hm1, hm2, hm3⟩, hb⟩
end Go.Proofs.YthdgehcghklflaaDoor

/- The ticket lock's text, as plain lists: what is assembled of it is its program; No walk stands here. -/
namespace Go.Proofs.YthdgehcghklflaaDoor
set_option linter.unusedVariables false

theorem itoa_1 (n : Int) (h0 : 0 ≤ n) (h9 : n < 10) : Lib.itoa n = [(48 : UInt8) + UInt8.ofNat n.toNat] := by
  obtain rfl | rfl | rfl | rfl | rfl | rfl | rfl | rfl | rfl | rfl : n = 0 ∨ n = 1 ∨ n = 2 ∨ n = 3 ∨ n = 4 ∨ n = 5 ∨ n = 6 ∨ n = 7 ∨ n = 8 ∨ n = 9 := by omega
  all_goals
    unfold Lib.itoa
    rw [if_neg (by decide), Lib.decDigits, dif_pos (by decide)]
    decide
theorem tk_lines : insLine tkP ⟨20, 1, 0, 0, 0, 0, 1, 0⟩ = [102, 97, 100, 100, 32, 114, 49, 32, 48, 32, 114, 48, 32, 49] ∧ insLine tkP ⟨12, 0, 0, 0, 0, 0, 1, 0⟩ = [109, 97, 114, 107, 32, 49] ∧ insLine tkP ⟨21, 2, 0, 1, 0, 1, 0, -1⟩ = [97, 119, 97, 105, 116, 32, 114, 50, 32, 49, 32, 114, 48, 32, 101, 113, 32, 114, 49] ∧ insLine tkP ⟨12, 0, 0, 0, 0, 0, 2, 0⟩ = [109, 97, 114, 107, 32, 50] ∧ insLine tkP ⟨13, 0, 0, 0, 0, 0, 1, 0⟩ = [100, 111, 110, 101, 32, 49] ∧ insLine tkP ⟨3, 1, 1, 0, 0, 0, 1, 0⟩ = [97, 100, 100, 107, 32, 114, 49, 32, 114, 49, 32, 49] ∧ insLine tkP ⟨17, 0, 0, 1, 0, 1, 0, 0⟩ = [115, 116, 111, 114, 101, 32, 49, 32, 114, 48, 32, 114, 49] ∧ insLine tkP ⟨12, 0, 0, 0, 0, 0, 4, 0⟩ = [109, 97, 114, 107, 32, 52] ∧ insLine tkP ⟨13, 0, 0, 0, 0, 0, 2, 0⟩ = [100, 111, 110, 101, 32, 50] := by
  have d0 : Lib.itoa 0 = [48] := itoa_1 0 (by decide) (by decide)
  have d1 : Lib.itoa 1 = [49] := itoa_1 1 (by decide) (by decide)
  have d2 : Lib.itoa 2 = [50] := itoa_1 2 (by decide) (by decide)
  have d4 : Lib.itoa 4 = [52] := itoa_1 4 (by decide) (by decide)
  refine ⟨?_, ?_, ?_, ?_, ?_, ?_, ?_, ?_, ?_⟩
  all_goals
    unfold insLine
    rw [if_neg (by decide)]
    simp [textL, partsL, partL, hsL, nmL, getI, d0, d1, d2, d4]
theorem tk_print : printL tkP = tkText := by
  obtain ⟨h0, h1, h2, h3, h4, h5, h6, h7, h8⟩ := tk_lines
  have l0 : labsAt tkP 0 = [lockW] := by decide
  have l1 : labsAt tkP (0 + 1) = [] := by decide
  have l2 : labsAt tkP (0 + 1 + 1) = [] := by decide
  have l3 : labsAt tkP (0 + 1 + 1 + 1) = [] := by decide
  have l4 : labsAt tkP (0 + 1 + 1 + 1 + 1) = [] := by decide
  have l5 : labsAt tkP (0 + 1 + 1 + 1 + 1 + 1) = [unlockW] := by decide
  have l6 : labsAt tkP (0 + 1 + 1 + 1 + 1 + 1 + 1) = [] := by decide
  have l7 : labsAt tkP (0 + 1 + 1 + 1 + 1 + 1 + 1 + 1) = [] := by decide
  have l8 : labsAt tkP (0 + 1 + 1 + 1 + 1 + 1 + 1 + 1 + 1) = [] := by decide
  have e : linesFrom tkP tkP.l 0 = [lockW ++ [58], insLine tkP ⟨20, 1, 0, 0, 0, 0, 1, 0⟩, insLine tkP ⟨12, 0, 0, 0, 0, 0, 1, 0⟩, insLine tkP ⟨21, 2, 0, 1, 0, 1, 0, -1⟩, insLine tkP ⟨12, 0, 0, 0, 0, 0, 2, 0⟩, insLine tkP ⟨13, 0, 0, 0, 0, 0, 1, 0⟩, unlockW ++ [58], insLine tkP ⟨3, 1, 1, 0, 0, 0, 1, 0⟩, insLine tkP ⟨17, 0, 0, 1, 0, 1, 0, 0⟩, insLine tkP ⟨12, 0, 0, 0, 0, 0, 4, 0⟩, insLine tkP ⟨13, 0, 0, 0, 0, 0, 2, 0⟩] := by
    show linesFrom tkP tkL 0 = _
    unfold tkL
    simp only [linesFrom, l0, l1, l2, l3, l4, l5, l6, l7, l8, List.map_nil, List.map_cons, List.nil_append, List.cons_append]
  unfold printL
  rw [e, h0, h1, h2, h3, h4, h5, h6, h7, h8]
  rfl
theorem tk_right : prgB tkP = true := by decide
theorem tk_k32 : ∀ i ∈ tkP.l, 0 ≤ i.k ∧ i.k < 4294967296 := by decide
theorem tk_asm : asmL tkText = (tkP, 0, 0) := by
  rw [← tk_print]
  exact asm_print tkP tk_right tk_k32
end Go.Proofs.YthdgehcghklflaaDoor

/- asm.isName, asm.hasPlace. -/
namespace Go.Proofs.YthdgehcghklflaaDoor
open Go.ChangeShapes Go.WideShapes Go.ChangeAt Go.RowKit
set_option linter.unusedVariables false

theorem iterPos_of {w : World} {k : Nat} {s : ByteArray} {p : Nat} (h : w.heap[k]? = some (.stringIter s p)) : w.iterPos k = p := by simp [World.iterPos, h]

theorem rest_drop (s : List UInt8) (n : Nat) (h : n < s.length) : restB (s.drop n) n = (okAt n (s.getD n 0) && restB (s.drop (n + 1)) (n + 1)) := by
  rw [List.drop_eq_getElem_cons h, restB]
  simp [List.getD_eq_getElem?_getD, h]

/-- .. of a byte as a number. -/
def okN (n c : Nat) : Bool := (decide (97 ≤ c) && decide (c ≤ 122)) || ((decide (48 ≤ c) && decide (c ≤ 57)) && decide (n ≠ 0))
theorem okAt_n (n : Nat) (c : UInt8) : okAt n c = okN n c.toNat := rfl
theorem okN_yes {n c : Nat} (h : okN n c = true) : (97 ≤ c ∧ c ≤ 122) ∨ (48 ≤ c ∧ c ≤ 57 ∧ n ≠ 0) := by
  unfold okN at h
  simp only [Bool.or_eq_true, Bool.and_eq_true, decide_eq_true_eq] at h
  omega
theorem okN_no {n c : Nat} (h : okN n c = false) : c < 48 ∨ (48 ≤ c ∧ c ≤ 57 ∧ n = 0) ∨ (57 < c ∧ c < 97) ∨ 122 < c := by
  unfold okN at h
  simp only [Bool.or_eq_false_iff, Bool.and_eq_false_iff, decide_eq_false_iff_not] at h
  omega

set_option maxHeartbeats 1000000 in
theorem cIsName (s : List UInt8) (w : World) :
    Calls Tryd.prog 19 #[bs s] w fun e w' => e = .returned (.bool (nameB s)) ∧ Below w.heap.size w w' := by
  have hsz : (⟨s.toArray⟩ : ByteArray).size = s.length := by show s.toArray.size = _; simp
  unfold bs
  by_cases h0 : s = []
  · subst h0
    go_enter Tryd.func19, Tryd.ntmps19
    go_wp2
    go_ret
    exact ⟨rfl, Below.refl _ _⟩
  by_cases h1 : 16 < s.length
  · have e : nameB s = false := by
      unfold nameB
      have : decide (s.length ≤ 16) = false := by simp; omega
      simp [this]
    rw [e]
    have q0 : (s == []) = false := by simpa using h0
    have q1 : (16 : Int) < s.length := by omega
    go_enter Tryd.func19, Tryd.ntmps19
    go_wp2
    go_ret
    exact ⟨rfl, Below.refl _ _⟩
  have q0 : (s == []) = false := by simpa using h0
  have q1 : ¬ (16 : Int) < s.length := by omega
  have hl : 1 ≤ s.length := by cases s with
    | nil => exact absurd rfl h0
    | cons => simp
  have HN := Lib.hid (name_rest s hl (by omega))
  generalize nameB s = r at *
  go_enter Tryd.func19, Tryd.ntmps19
  go_wp2
  go_loopw [2] (fun v wr => ∃ n : Nat, v = .bool false ∧ n ≤ s.length ∧ wr.heap[w.heap.size]? = some (.stringIter ⟨s.toArray⟩ n) ∧ Below w.heap.size w wr ∧ Hid (r = restB (s.drop n) n))
    (fun v wr => s.length - wr.iterPos w.heap.size)
  case atStart => exact ⟨0, rfl, by omega, World.iter_heap w _ 0, (Below.refl _ _).alloc (Nat.le_refl _) _, Lib.hid (by simpa using HN.out)⟩
  case round =>
    obtain ⟨n, rfl, hn, hit, hb, HR⟩ := hrel
    have hpos := iterPos_of hit
    by_cases hp : n < s.length
    · have hnx : ∀ ty, (Instr.next (.pointer (some ⟨w.heap.size, 0, none⟩)) true ty).run Tryd.prog wr = _ := fun ty => Lib.run_next_any_at wr w.heap.size ⟨s.toArray⟩ n ty hit (by omega)
      have hg : (⟨s.toArray⟩ : ByteArray)[n]'(by omega) = s.getD n 0 := by
        simp [ByteArray.getElem_eq_getElem_data, hp]
      have HD := Lib.hid (rest_drop s n hp)
      have HK : Hid (okAt n (s.getD n 0) = okN n (s.getD n 0).toNat) := Lib.hid (okAt_n _ _)
      have hit2 := Lib.iterAt_heap wr w.heap.size ⟨s.toArray⟩ n (n + (Utf8.decode ⟨s.toArray⟩ n).2) hit
      have hb2 := Lib.below_iterAt hb (k := w.heap.size) (Nat.le_refl _) ⟨s.toArray⟩ (n + (Utf8.decode ⟨s.toArray⟩ n).2)
      by_cases hc : (s.getD n 0).toNat < 128
      · have hd := decode_ascii ⟨s.toArray⟩ n (by omega) (by rw [hg]; exact hc)
        rw [hg] at hd
        rw [hd] at hnx hit2 hb2
        simp only at hnx hit2 hb2
        clear hd hg hc
        generalize wr.iterAt w.heap.size ⟨s.toArray⟩ (n + 1) = W1 at *
        rw [HK.out] at HD
        clear HK
        generalize (s.getD n 0).toNat = c at *
        clear hit
        cases ho : okN n c with
        | true =>
          have HR2 : Hid (r = restB (s.drop (n + 1)) (n + 1)) := Lib.hid (by rw [HR.out, HD.out, ho]; simp)
          rcases okN_yes ho with ⟨k1, k2⟩ | ⟨k1, k2, k3⟩
          · have z1 : (97 : Int) ≤ (c : Int) := by omega
            have z2 : (c : Int) ≤ 122 := by omega
            clear HR HD ho k1 k2
            go_wp2
            all_goals (
              go_roundw
              case rel => exact ⟨n + 1, rfl, by omega, hit2, hb2, HR2⟩
              case measure => rw [iterPos_of hit2, hpos]; omega)
          · have z1 : ¬ (97 : Int) ≤ (c : Int) := by omega
            have z2 : (48 : Int) ≤ (c : Int) := by omega
            have z3 : (c : Int) ≤ 57 := by omega
            have z4 : ((n : Int) == 0) = false := by simp; omega
            clear HR HD ho k1 k2
            go_wp2
            all_goals (
              go_roundw
              case rel => exact ⟨n + 1, rfl, by omega, hit2, hb2, HR2⟩
              case measure => rw [iterPos_of hit2, hpos]; omega)
        | false =>
          have HR2 : Hid (r = false) := Lib.hid (by rw [HR.out, HD.out, ho]; simp)
          rcases okN_no ho with k1 | ⟨k1, k2, k3⟩ | ⟨k1, k2⟩ | k1
          · have z1 : ¬ (97 : Int) ≤ (c : Int) := by omega
            have z2 : ¬ (48 : Int) ≤ (c : Int) := by omega
            clear HR HD ho k1
            go_wp2
            go_ret
            exact ⟨by rw [HR2.out]; rfl, hb2⟩
          · have z1 : ¬ (97 : Int) ≤ (c : Int) := by omega
            have z2 : (48 : Int) ≤ (c : Int) := by omega
            have z3 : (c : Int) ≤ 57 := by omega
            have z4 : ((n : Int) == 0) = true := by simp; omega
            clear HR HD ho k1 k2
            go_wp2
            go_ret
            exact ⟨by rw [HR2.out]; rfl, hb2⟩
          · have z1 : ¬ (97 : Int) ≤ (c : Int) := by omega
            have z2 : (48 : Int) ≤ (c : Int) := by omega
            have z3 : ¬ (c : Int) ≤ 57 := by omega
            clear HR HD ho k1 k2
            go_wp2
            go_ret
            exact ⟨by rw [HR2.out]; rfl, hb2⟩
          · have z1 : (97 : Int) ≤ (c : Int) := by omega
            have z2 : ¬ (c : Int) ≤ 122 := by omega
            have z3 : (48 : Int) ≤ (c : Int) := by omega
            have z4 : ¬ (c : Int) ≤ 57 := by omega
            clear HR HD ho k1
            go_wp2
            go_ret
            exact ⟨by rw [HR2.out]; rfl, hb2⟩
      · have hd := (decode_high ⟨s.toArray⟩ n (by omega) (by rw [hg]; omega)).1
        have HR2 : Hid (r = false) := Lib.hid (by
          rw [HR.out, HD.out, HK.out]
          have : okN n (s.getD n 0).toNat = false := by
            cases ho : okN n (s.getD n 0).toNat with
            | false => rfl
            | true => rcases okN_yes ho with ⟨k1, k2⟩ | ⟨k1, k2, k3⟩ <;> omega
          rw [this]; simp)
        generalize (Utf8.decode ⟨s.toArray⟩ n).1 = c at *
        generalize wr.iterAt w.heap.size ⟨s.toArray⟩ (n + (Utf8.decode ⟨s.toArray⟩ n).2) = W1 at *
        have z1 : (97 : Int) ≤ (c : Int) := by omega
        have z2 : ¬ (c : Int) ≤ 122 := by omega
        have z3 : (48 : Int) ≤ (c : Int) := by omega
        have z4 : ¬ (c : Int) ≤ 57 := by omega
        clear HR HD HK hd hc hg hit2 hit
        go_wp2
        go_ret
        exact ⟨by rw [HR2.out]; rfl, hb2⟩
    · have hnx : ∀ ty, (Instr.next (.pointer (some ⟨w.heap.size, 0, none⟩)) true ty).run Tryd.prog wr = _ := fun ty => Lib.run_next_end_at wr w.heap.size ⟨s.toArray⟩ n ty hit (by omega)
      have HR2 : Hid (r = true) := Lib.hid (by rw [HR.out, List.drop_of_length_le (by omega)]; rfl)
      clear HR hit
      go_wp2
      go_ret
      exact ⟨by rw [HR2.out]; rfl, hb⟩

theorem place_cases (i : Ins) : (placeB i = true ∧ (i.op = 8 ∨ i.op = 9 ∨ i.op = 10)) ∨ (i.op = 21 ∧ placeB i = decide (i.pl ≠ -1)) ∨ (placeB i = false ∧ i.op ≠ 8 ∧ i.op ≠ 9 ∧ i.op ≠ 10 ∧ i.op ≠ 21) := by
  unfold placeB
  by_cases h : i.op = 8 ∨ i.op = 9 ∨ i.op = 10
  · exact .inl ⟨by simp [h], h⟩
  by_cases h2 : i.op = 21
  · exact .inr (.inl ⟨h2, by simp [h2]⟩)
  · exact .inr (.inr ⟨by simp [h, h2], by omega, by omega, by omega, h2⟩)

theorem cHasPlace (i : Ins) (w : World) :
    Calls Tryd.prog 29 #[iv i] w fun e w' => e = .returned (.bool (placeB i)) ∧ Below w.heap.size w w' := by
  have hb : ∀ cs : Array Value, Below w.heap.size w (w.alloc (.cells cs 60)) := fun cs => (Below.refl _ _).alloc (Nat.le_refl _) _
  have HP := place_cases i
  generalize placeB i = r at *
  obtain ⟨op, d, s, t, u, a, k, pl⟩ := i
  simp only at HP
  unfold iv
  rcases HP with ⟨rfl, rfl | rfl | rfl⟩ | ⟨rfl, h⟩ | ⟨rfl, h1, h2, h3, h4⟩
  · go_enter Tryd.func29, Tryd.ntmps29
    go_wp2
    go_ret
    exact ⟨rfl, hb _⟩
  · go_enter Tryd.func29, Tryd.ntmps29
    go_wp2
    go_ret
    exact ⟨rfl, hb _⟩
  · go_enter Tryd.func29, Tryd.ntmps29
    go_wp2
    go_ret
    exact ⟨rfl, hb _⟩
  · have HH := Lib.hid h
    clear h
    go_enter Tryd.func29, Tryd.ntmps29
    go_wp2
    go_ret
    refine ⟨?_, hb _⟩
    rw [HH.out]
    congr 2
    simp [bne]
    by_cases e : pl = -1 <;> simp [e]
  · have e1 : (op == 8) = false := by simpa using h1
    have e2 : (op == 9) = false := by simpa using h2
    have e3 : (op == 10) = false := by simpa using h3
    have e4 : (op == 21) = false := by simpa using h4
    go_enter Tryd.func29, Tryd.ntmps29
    go_wp2
    go_ret
    exact ⟨rfl, hb _⟩
end Go.Proofs.YthdgehcghklflaaDoor

/- The lines of a text, each with its end, and strings.Lines. -/
namespace Go.Proofs.YthdgehcghklflaaDoor
open Go.ChangeShapes Go.WideShapes Go.ChangeAt Go.RowKit Go.Shelf
attribute [local go_sem] Oper.semAt_some
set_option linter.unusedVariables false

theorem cNumbered (s : List UInt8) (w : World) :
    Calls Tryd.prog 12 #[bs s] w fun e w' => e = .returned (.func (.func 16) #[] #[.pointer (some ⟨w.heap.size, 0, none⟩)]) ∧ w' = w.alloc (.cells #[bs s] 9) := by
  unfold bs
  go_enter Tryd.func12, Tryd.ntmps12
  go_wp2
  go_ret
  exact ⟨rfl, rfl⟩

set_option maxHeartbeats 1000000 in
/-- The lines with their numbers, from 1 on. -/
theorem it_numbered (text : List UInt8) (b l : Nat) (W1 : World) (hb : Bk W1 b 9 #[bs text]) (hlen : text.length < 1000000000) :
    Iter Tryd.prog 16 #[.pointer (some ⟨b, 0, none⟩)] (fun k => #[.int .i64 ((k : Int) + 1), bs (lineAt text k)]) (linesL text).length l W1 (fun x => W1.heap.size ≤ x ∧ x < W1.heap.size + 5) := by
  intro J Jx hJ hJx hY h0
  have hc0 : W1.cell? ⟨b, 0, none⟩ = some (.string ⟨text.toArray⟩) := hb.cell 0
  have HL := Lib.hid (fun W => callsIn_wide (n := 0) |>.2 (lLines text W))
  refine callsIn_of_wp_marks Tryd.func16 rfl trivial ?_ rfl
  simp only [Tryd.ntmps16, List.size_toArray, List.length_cons, List.length_nil, Nat.reduceAdd, Nat.reduceSub, Array.replicate_succ, Array.replicate_zero, List.push_toArray, List.append_toArray, List.nil_append, List.cons_append]
  have y2 := Bk.alloc (Bk.made W1 62 #[.func (.yield l) #[] #[]]) (.cells #[.int .i64 0] 3)
  have n2 := Bk.made (W1.alloc (.cells #[.func (.yield l) #[] #[]] 62)) 3 #[.int .i64 0]
  have t2 := Bk.alloc (Bk.alloc hb (.cells #[.func (.yield l) #[] #[]] 62)) (.cells #[.int .i64 0] 3)
  have w2 : Within W1 ((W1.alloc (.cells #[.func (.yield l) #[] #[]] 62)).alloc (.cells #[.int .i64 0] 3)) (fun _ => False) := ((Within.refl _ _).alloc _).alloc _
  have s2 : ((W1.alloc (.cells #[.func (.yield l) #[] #[]] 62)).alloc (.cells #[.int .i64 0] 3)).heap.size = W1.heap.size + 2 := by simp
  rw [World.size_alloc] at n2
  have hc2 : ((W1.alloc (.cells #[.func (.yield l) #[] #[]] 62)).alloc (.cells #[.int .i64 0] 3)).cell? ⟨b, 0, none⟩ = some (.string ⟨text.toArray⟩) := t2.cell 0
  gi_wp2
  generalize (W1.alloc (.cells #[.func (.yield l) #[] #[]] 62)).alloc (.cells #[.int .i64 0] 3) = W2 at *
  refine ⟨trivial, rfl, ?_⟩
  refine (HL.out _).mono ?_
  rintro e W3 ⟨rfl, rfl⟩
  have y3 := y2.alloc (.cells #[bs text] 9)
  have n3 := n2.alloc (.cells #[bs text] 9)
  have t3 := Bk.made W2 9 #[bs text]
  have s3 : (W2.alloc (.cells #[bs text] 9)).heap.size = W1.heap.size + 3 := by simp [s2]
  have w3 : Within W1 (W2.alloc (.cells #[bs text] 9)) (fun _ => False) := w2.alloc _
  rw [s2] at t3 ⊢
  generalize W2.alloc (.cells #[bs text] 9) = W3 at *
  clear hc2 t2 n2 y2 w2 s2 W2 HL hc0
  gi_wp2
  have e0 : W3.heap.size = W1.heap.size + 3 := s3
  refine wpIn_range (gf := 24) (lb := #[.pointer (some ⟨W1.heap.size + 2, 0, none⟩)]) rfl (enters_of Tryd.func24 (by kernel_rfl) rfl)
    (encs := fun k => #[bs (lineAt text k)]) (N := (linesL text).length) (T := fun x => x = W1.heap.size + 2) (fun _ => rfl) (by omega) (by omega)
    (fun W4 hb4 hz4 => it_lines text _ _ W4 ((hb4.block _ (by omega)).trans t3) hlen)
    (fun k W => J k W ∧ Bk W W1.heap.size 62 #[.func (.yield l) #[] #[]] ∧ Bk W (W1.heap.size + 1) 3 #[.int .i64 k])
    (fun c W => c = .ret ∧ Jx W) ?calm ?calmx ⟨hJ 0 _ _ h0 (w3.wide (by simp)), y3, n3⟩
    (fun k => { tmps := #[.func (.yield l) #[] #[], .pointer (some ⟨b, 0, none⟩), .pointer (some ⟨W1.heap.size, 0, none⟩), .pointer (some ⟨W1.heap.size + 1, 0, none⟩), .string ⟨(lineAt text k).toArray⟩, .string ⟨text.toArray⟩,
      .func (.func 24) #[] #[.pointer (some ⟨W1.heap.size + 2, 0, none⟩)], .string ⟨(lineAt text k).toArray⟩, undef, undef, undef, undef, undef, undef, undef], defers := [] }) ?assign ?body ?done ?stop
  case calm =>
    rintro k A B ⟨j, y, n⟩ hw
    exact ⟨hJ k A B j (hw.wide (by rintro i (rfl | rfl | rfl) _ <;> omega)), y.within hw (by omega), n.within hw (by omega)⟩
  case calmx =>
    rintro c A B ⟨rfl, j⟩ hw
    exact ⟨rfl, hJx A B j (hw.wide (by rintro i (rfl | rfl | rfl) _ <;> omega))⟩
  case assign =>
    intro l2 k W K hK
    unfold bs
    gi_wp2
    exact hK
  case body =>
    rintro l2 k W hk ⟨hj, hy, hn⟩ hT
    have hkl : k < 1000000000 := Nat.lt_of_lt_of_le hk (Nat.le_trans (lines_len text) (Nat.le_of_lt hlen))
    have hwr : wrap64 ((k : Int) + 1) = (k : Int) + 1 := by unfold wrap64; omega
    have cn : W.cell? ⟨W1.heap.size + 1, 0, none⟩ = some (.int .i64 k) := hn.cell 0
    have fn := hn.free 0
    have w1 : Within W (W.setCell ⟨W1.heap.size + 1, 0, none⟩ (.int .i64 ((k : Int) + 1))) (fun x => x = W1.heap.size + 1) := (Within.refl _ _).put _ 0 _ (.inl rfl)
    have n1 : Bk (W.setCell ⟨W1.heap.size + 1, 0, none⟩ (.int .i64 ((k : Int) + 1))) (W1.heap.size + 1) 3 #[.int .i64 ((k : Int) + 1)] := hn.put 0 _
    have y1 := hy.within w1 (by omega)
    have hj1 := hJ k _ _ hj (w1.wide (by rintro i rfl _; omega))
    obtain ⟨fn2, tmps, assign, body, hyy, hR⟩ := hY k _ hk hj1 (by intro x hx; have := w1.size; have := hT (W3.heap.size + 1) (.inr (.inl rfl)); omega)
    unfold bs at hyy
    have cy : (W.setCell ⟨W1.heap.size + 1, 0, none⟩ (.int .i64 ((k : Int) + 1))).cell? ⟨W1.heap.size, 0, none⟩ = some (.func (.yield l) #[] #[]) := y1.cell 0
    have cn1 : (W.setCell ⟨W1.heap.size + 1, 0, none⟩ (.int .i64 ((k : Int) + 1))).cell? ⟨W1.heap.size + 1, 0, none⟩ = some (.int .i64 ((k : Int) + 1)) := n1.cell 0
    gi_wp2
    refine ⟨rfl, RoundIn.mono (F := Fence.wide) hR ?_⟩
    rintro e W5 ⟨hh, hQ⟩
    have hT5 : Held (fun x => x = W3.heap.size ∨ x = W3.heap.size + 1 ∨ x = W1.heap.size + 2) W W5 := by
      refine ⟨Nat.le_trans w1.size hh.1, ?_⟩
      rintro x (rfl | rfl | rfl)
      · exact (hh.2 _ ⟨by omega, by omega⟩).trans (w1.block _ (hT _ (.inl rfl)) (by omega))
      · exact (hh.2 _ ⟨by omega, by omega⟩).trans (w1.block _ (hT _ (.inr (.inl rfl))) (by omega))
      · exact (hh.2 _ ⟨by omega, by omega⟩).trans (w1.block _ (hT _ (.inr (.inr rfl))) (by omega))
    rcases hQ with ⟨rfl, hJ5⟩ | ⟨rfl, hJx5⟩
    · gi_wp2
      exact ⟨hT5, hJ5, (hh.2 _ ⟨by omega, by omega⟩).trans y1, (hh.2 _ ⟨by omega, by omega⟩).trans n1⟩
    · gi_wp2
      exact ⟨hT5, rfl, hJx5⟩
  case done =>
    rintro W ⟨hj, _, _⟩ hd
    gi_wp2
    refine ⟨by simp, .inl ⟨_, _, rfl, run_takeDeferred hd, ?_⟩⟩
    exact ⟨_, results_none rfl _ _ _, ⟨_, rfl⟩, .inl (hJ _ _ _ hj (within_putObj _ _ _ _ ⟨by omega, by omega⟩))⟩
  case stop =>
    rintro c W ⟨rfl, hj⟩ hd
    gi_wp2
    refine ⟨by simp, .inl ⟨_, _, rfl, run_takeDeferred hd, ?_⟩⟩
    exact ⟨_, results_none rfl _ _ _, ⟨_, rfl⟩, .inr (hJx _ _ hj (within_putObj _ _ _ _ ⟨by omega, by omega⟩))⟩
end Go.Proofs.YthdgehcghklflaaDoor
