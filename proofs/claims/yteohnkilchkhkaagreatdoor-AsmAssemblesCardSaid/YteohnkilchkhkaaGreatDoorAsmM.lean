/- AsmL, AsmM, AsmN, AsmO, AsmP, AsmQ, AsmR, one behind the other. -/
import Derived.Test.YteohnkilchkhkaaGreatDoorInstM
import Derived.Test.YteohnkilchkhkaaGreatDoorInstP
/- Names and places of layer 7, as plain lists. No walk stands here. -/
namespace Go.Proofs.YteohnkilchkhkaaGreatDoor
set_option linter.unusedVariables false

def lowB (c : UInt8) : Bool := decide (97 ≤ c.toNat) && decide (c.toNat ≤ 122)
def digB (c : UInt8) : Bool := decide (48 ≤ c.toNat) && decide (c.toNat ≤ 57)
/-- A name. -/
def nameB (s : List UInt8) : Bool := decide (1 ≤ s.length) && (decide (s.length ≤ 16) && (lowB (s.getD 0 0) && s.all fun c => lowB c || digB c))
/-- It goes to a place. -/
def goesB (i : Ins) : Bool := (decide (8 ≤ i.op) && decide (i.op ≤ 10)) || (decide (i.op = 21) && decide (0 ≤ i.pl))
/-- .. as the program asks it. -/
def placeB (i : Ins) : Bool := decide (i.op = 8 ∨ i.op = 9 ∨ i.op = 10) || (decide (i.op = 21) && decide (i.pl ≠ -1))

/-- What is asked of byte c at place n of a name. -/
def okAt (n : Nat) (c : UInt8) : Bool := lowB c || (digB c && decide (n ≠ 0))
/-- From place n on. -/
def restB : List UInt8 → Nat → Bool
  | [], _ => true
  | c :: r, n => okAt n c && restB r (n + 1)
theorem rest_all : ∀ (s : List UInt8) (n : Nat), 0 < n → restB s n = s.all fun c => lowB c || digB c
  | [], _, _ => rfl
  | c :: r, n, h => by
    have hn : decide (n ≠ 0) = true := by simpa using Nat.ne_of_gt h
    rw [restB, rest_all r (n + 1) (by omega), List.all_cons, okAt, hn, Bool.and_true]
theorem name_rest (s : List UInt8) (h0 : 1 ≤ s.length) (h1 : s.length ≤ 16) : nameB s = restB s 0 := by
  cases s with
  | nil => simp at h0
  | cons c r =>
    unfold nameB
    rw [restB, rest_all r 1 (by omega)]
    simp only [h0, h1, decide_true, Bool.true_and, List.getD_cons_zero, List.all_cons, okAt]
    cases lowB c <;> simp
end Go.Proofs.YteohnkilchkhkaaGreatDoor

/- Programs as plain lists: names, lines, what is assembled of a text, and a program's own text. No walk stands here. -/
namespace Go.Proofs.YteohnkilchkhkaaGreatDoor
set_option linter.unusedVariables false

theorem draftR_k (ws : List (List UInt8)) : 0 ≤ (draftR ws).k ∧ (draftR ws).k < 4294967296 := by
  have hk : 0 ≤ kOf ws.tail ∧ kOf ws.tail < 4294967296 := by unfold kOf; split <;> omega
  unfold draftR finI
  generalize kOf ws.tail = k at *
  repeat' split
  all_goals (simp only; omega)

/-- The instruction that a text is; none: it is none. -/
def prs (s : List UInt8) : Option Ins := if parseRB s = true then some (draftR (wordsL s)) else none
theorem prs_iff (s : List UInt8) (i : Ins) : prs s = some i ↔ rightB i 1073741824 = true ∧ 0 ≤ i.k ∧ i.k < 4294967296 ∧ textL i = s := by
  unfold prs
  constructor
  · intro h
    split at h
    · rename_i hp
      injection h with h
      subst h
      have hp2 := hp
      unfold parseRB at hp2
      simp only [Bool.and_eq_true, decide_eq_true_eq] at hp2
      exact ⟨hp2.2.1, (draftR_k _).1, (draftR_k _).2, hp2.2.2⟩
    · cases h
  · rintro ⟨hr, k0, k1, rfl⟩
    rw [if_pos (parseR_text i hr k0 k1), (draftR_text i hr k0 k1).2]

def lastW (s : List UInt8) : List UInt8 := (wordsL s).getLastD []
def headW (s : List UInt8) : List UInt8 := s.take (s.length - (lastW s).length)

/-- An instruction, the name of its place; none: it is none. -/
def lineL (s : List UInt8) : Option (Ins × List UInt8) :=
  match prs (headW s ++ [48]) with
  | some i => if goesB i = true ∧ nameB (lastW s) = true then some (i, lastW s)
    else match prs s with
      | some j => if goesB j = true then none else some (j, [])
      | none => none
  | none => match prs s with
    | some j => if goesB j = true then none else some (j, [])
    | none => none

/-- A label's line. -/
def lbB (s : List UInt8) : Bool := !s.isEmpty && (decide (s.getLastD 0 = 58) && nameB s.dropLast)

/-- The pieces of a text between its ends of line. -/
def piecesL : List UInt8 → List (List UInt8)
  | [] => [[]]
  | c :: r => if c = 10 then [] :: piecesL r else ahead c (piecesL r)

/-- The first turn: labels with their places, instructions with the names of their places and their lines; or a line and an error. -/
def asm1 : List (List UInt8) → Int → List (List UInt8 × Int) → List (Ins × List UInt8 × Int) → (Int × Int) ⊕ (List (List UInt8 × Int) × List (Ins × List UInt8 × Int))
  | [], _, ls, rs => .inr (ls, rs)
  | s :: more, n, ls, rs =>
    if lbB s = true then
      if (ls.any fun x => x.1 == s.dropLast) = true then .inl (n, 2) else asm1 more (n + 1) (ls ++ [(s.dropLast, (rs.length : Int))]) rs
    else match lineL s with
      | none => .inl (n, 8)
      | some (i, nm) => if 64 ≤ rs.length then .inl (n, 9) else asm1 more (n + 1) ls (rs ++ [(i, nm, n)])

/-- A label's place, less than n; -1: none. -/
def findL (ls : List (List UInt8 × Int)) (s : List UInt8) (n : Int) : Int :=
  match ls.find? fun x => x.1 == s && decide (x.2 < n) with
  | some x => x.2
  | none => -1

/-- The second turn. -/
def asm2 (ls : List (List UInt8 × Int)) (n : Int) : List (Ins × List UInt8 × Int) → (Int × Int) ⊕ List Ins
  | [] => .inr []
  | (i, nm, row) :: more =>
    if nm = [] then
      match asm2 ls n more with
      | .inl e => .inl e
      | .inr l => .inr (i :: l)
    else if findL ls nm n < 0 then .inl (row, 10)
    else match asm2 ls n more with
      | .inl e => .inl e
      | .inr l => .inr ({ i with pl := findL ls nm n } :: l)

/-- A program. -/
structure Prg where
  l : List Ins
  lo : Int
  un : Int
def Prg.zero : Prg := ⟨[], 0, 0⟩

def lockW : List UInt8 := [108, 111, 99, 107]
def unlockW : List UInt8 := [117, 110, 108, 111, 99, 107]

/-- What is assembled of a text: the program, the line, the error. -/
def asmL (text : List UInt8) : Prg × Int × Int :=
  match asm1 (piecesL text).dropLast 1 [] [] with
  | .inl (n, e) => (Prg.zero, n, e)
  | .inr (ls, rs) =>
    if (piecesL text).getLastD [] ≠ [] then (Prg.zero, ((piecesL text).length : Int), 8)
    else match asm2 ls rs.length rs with
      | .inl (n, e) => (Prg.zero, n, e)
      | .inr l => if findL ls lockW rs.length < 0 ∨ findL ls unlockW rs.length < 0 then (Prg.zero, 0, 10)
        else (⟨l, findL ls lockW rs.length, findL ls unlockW rs.length⟩, 0, 0)

/-- May a program be? -/
def prgB (c : Prg) : Bool := decide (1 ≤ c.l.length) && (decide (c.l.length ≤ 64) && (decide (0 ≤ c.lo) && (decide (0 ≤ c.un) && (decide (c.lo < c.l.length) && (decide (c.un < c.l.length) && c.l.all fun i => rightB i c.l.length)))))

/-- A place's name. -/
def labelL (c : Prg) (at_ : Int) : List UInt8 := if at_ = c.lo then lockW else if at_ = c.un then unlockW else 108 :: Lib.itoa at_

/-- Some instruction goes there. -/
def wantB (c : Prg) (k : Int) : Bool := c.l.any fun x => goesB x && decide (x.pl = k)

/-- The text of an instruction that goes to a place, up to that. -/
def headI (i : Ins) : List UInt8 := nmL i.op ++ partsL i (hsL i.op).dropLast ++ (if i.op = 21 then [32, 101, 108, 115, 101, 32] else [32])

/-- An instruction's line. -/
def insLine (c : Prg) (i : Ins) : List UInt8 := if goesB i = true then headI i ++ labelL c i.pl else textL i

/-- The labels ahead of an instruction. -/
def labsAt (c : Prg) (k : Int) : List (List UInt8) :=
  (if k = c.lo then [lockW] else []) ++ ((if k = c.un then [unlockW] else []) ++ (if wantB c k = true ∧ k ≠ c.lo ∧ k ≠ c.un then [labelL c k] else []))

/-- The lines of a program's own text, from place k on. -/
def linesFrom (c : Prg) : List Ins → Int → List (List UInt8)
  | [], _ => []
  | i :: more, k => (labsAt c k).map (fun s => s ++ [58]) ++ insLine c i :: linesFrom c more (k + 1)

/-- A program's own text. -/
def printL (c : Prg) : List UInt8 := (linesFrom c c.l 0).flatMap fun s => s ++ [10]

-- words
theorem ahead_app (c : UInt8) (a b : List (List UInt8)) (h : a ≠ []) : ahead c (a ++ b) = ahead c a ++ b := by
  cases a with
  | nil => exact absurd rfl h
  | cons x y => rfl
theorem wordsL_ne (s : List UInt8) : wordsL s ≠ [] := by
  have := wordsL_pos s
  intro h
  rw [h] at this
  simp at this
theorem wordsL_cat : ∀ (a b : List UInt8), wordsL (a ++ 32 :: b) = wordsL a ++ wordsL b
  | [], b => by simp [wordsL]
  | c :: a, b => by
    have ih := wordsL_cat a b
    show wordsL (c :: (a ++ 32 :: b)) = _
    by_cases hc : c = 32
    · rw [wordsL, if_pos hc, ih, wordsL, if_pos hc]; rfl
    · rw [wordsL, if_neg hc, ih, wordsL, if_neg hc, ahead_app _ _ _ (wordsL_ne a)]
theorem lastW_cat (a b : List UInt8) (h : Bf b) : lastW (a ++ 32 :: b) = b := by
  unfold lastW
  rw [wordsL_cat, wordsL_one b h]
  simp
theorem headW_cat (a b : List UInt8) (h : Bf b) : headW (a ++ 32 :: b) = a ++ [32] := by
  unfold headW
  rw [lastW_cat a b h]
  have e : (a ++ 32 :: b).length - b.length = (a ++ [32]).length := by simp; omega
  have e2 : a ++ 32 :: b = (a ++ [32]) ++ b := by simp
  rw [e, e2, List.take_left]

theorem name_bf {s : List UInt8} (h : nameB s = true) : Bf s := by
  unfold nameB at h
  simp only [Bool.and_eq_true] at h
  intro c hc e
  have := List.all_eq_true.1 h.2.2.2 c hc
  subst e
  revert this
  decide
theorem name_ne {s : List UInt8} (h : nameB s = true) : s ≠ [] := by
  rintro rfl
  revert h
  decide
end Go.Proofs.YteohnkilchkhkaaGreatDoor

/- Lines: an instruction's line is that instruction, with its place's name. No walk stands here. -/
namespace Go.Proofs.YteohnkilchkhkaaGreatDoor
set_option linter.unusedVariables false

-- the name of an op
theorem op_of_name (op : Int) (h : hsL op ≠ []) : opTo (nmL op) 23 = op := by
  rcases op_cases op with rfl | rfl | rfl | rfl | rfl | rfl | rfl | rfl | rfl | rfl | rfl | rfl | rfl | rfl | rfl | rfl | rfl | rfl | rfl | rfl | rfl | hn
  all_goals first | decide | exact absurd (hs_none hn).1 h
theorem right_hs {i : Ins} {p : Int} (h : rightB i p = true) : hsL i.op ≠ [] := by
  unfold rightB at h
  simp only [Bool.and_eq_true, Bool.not_eq_true', List.isEmpty_eq_false_iff] at h
  exact h.1
theorem nm_inj {i j : Ins} {p q : Int} (hi : rightB i p = true) (hj : rightB j q = true) (h : nmL i.op = nmL j.op) : i.op = j.op := by
  rw [← op_of_name i.op (right_hs hi), h, op_of_name j.op (right_hs hj)]
theorem nm_bf (op : Int) : Bf (nmL op) := by
  rcases op_cases op with rfl | rfl | rfl | rfl | rfl | rfl | rfl | rfl | rfl | rfl | rfl | rfl | rfl | rfl | rfl | rfl | rfl | rfl | rfl | rfl | rfl | hn
  all_goals first | (unfold Bf; decide) | (rw [(hs_none hn).2]; unfold Bf; simp)

/-- Right with few places: right with more. -/
theorem right_more {i : Ins} {p q : Int} (hq : p ≤ q) (h : rightB i p = true) : rightB i q = true := by
  unfold rightB at *
  simp only [Bool.and_eq_true, List.all_eq_true] at *
  refine ⟨h.1, fun c hc => ?_, h.2.2⟩
  have := h.2.1 c hc
  unfold inB endI at *
  simp only [Bool.and_eq_true, decide_eq_true_eq] at *
  refine ⟨this.1, ?_⟩
  have h2 := this.2
  generalize (c.toNat : Int) = x at *
  generalize getI i x = y at *
  repeat' split at h2
  all_goals first | (simp_all; done) | (simp_all; omega)

theorem goes_cases {i : Ins} (h : goesB i = true) : i.op = 8 ∨ i.op = 9 ∨ i.op = 10 ∨ (i.op = 21 ∧ 0 ≤ i.pl) := by
  unfold goesB at h
  simp only [Bool.or_eq_true, Bool.and_eq_true, decide_eq_true_eq] at h
  omega
/-- The place of a right instruction that goes to one. -/
theorem goes_pl {i : Ins} {p : Int} (hr : rightB i p = true) (h : goesB i = true) : 0 ≤ i.pl ∧ i.pl < p := by
  obtain ⟨op, d, s, t, u, a, k, pl⟩ := i
  unfold rightB at hr
  rcases goes_cases h with e | e | e | ⟨e, e2⟩ <;> (simp only at e; subst e; simp [hsL, inB, lowI, endI, getI] at hr; simp only at *)
  · exact hr.1.2.2
  · exact hr.1.2.2
  · exact hr.1
  · have := hr.1.2.2.2.2.2.2
    split at this <;> omega

theorem headI_pl (i : Ins) (h : goesB i = true) (p : Int) : headI { i with pl := p } = headI i := by
  obtain ⟨op, d, s, t, u, a, k, pl⟩ := i
  rcases goes_cases h with e | e | e | ⟨e, e2⟩ <;> (simp only at e; subst e; simp [headI, hsL, partsL, partL, getI])
/-- The text of an instruction that goes to a place. -/
theorem text_goes (i : Ins) (h : goesB i = true) (h0 : 0 ≤ i.pl) : textL i = headI i ++ Lib.itoa i.pl := by
  obtain ⟨op, d, s, t, u, a, k, pl⟩ := i
  rcases goes_cases h with e | e | e | ⟨e, e2⟩
  · simp only at e; subst e; simp [textL, headI, hsL, partsL, partL, getI]
  · simp only at e; subst e; simp [textL, headI, hsL, partsL, partL, getI]
  · simp only at e; subst e; simp [textL, headI, hsL, partsL, partL, getI]
  · simp only at e e2
    subst e
    have hne : pl ≠ -1 := by omega
    simp [textL, headI, hsL, partsL, partL, getI, hne]
theorem headI_end (i : Ins) : ∃ a, headI i = a ++ [32] := by
  unfold headI
  split
  · exact ⟨nmL i.op ++ partsL i (hsL i.op).dropLast ++ [32, 101, 108, 115, 101], by simp⟩
  · exact ⟨nmL i.op ++ partsL i (hsL i.op).dropLast, rfl⟩
theorem right_zero {i : Ins} {p q : Int} (hr : rightB i p = true) (h : goesB i = true) (hq : 0 < q) : rightB { i with pl := 0 } q = true := by
  obtain ⟨op, d, s, t, u, a, k, pl⟩ := i
  unfold rightB at *
  rcases goes_cases h with e | e | e | ⟨e, e2⟩ <;> (simp only at e; subst e; simp [hsL, inB, lowI, endI, getI, isZ, clr, setI] at hr ⊢)
  · refine ⟨⟨hr.1.1, hr.1.2.1, hq⟩, hr.2⟩
  · refine ⟨⟨hr.1.1, hr.1.2.1, hq⟩, hr.2⟩
  · refine ⟨hq, hr.2⟩
  · obtain ⟨⟨q1, q2, q3, q4, q5, q6⟩, q7⟩ := hr
    refine ⟨⟨q1, q2, q3, q4, q5, ?_⟩, q7⟩
    split <;> omega
theorem goes_zero {i : Ins} (h : goesB i = true) : goesB { i with pl := 0 } = true := by
  unfold goesB at *
  simp only [Bool.or_eq_true, Bool.and_eq_true, decide_eq_true_eq] at *
  omega
theorem itoa_zero : Lib.itoa 0 = [48] := by
  rw [show (0 : Int) = ((0 : Nat) : Int) from rfl, itoa_nat, Lib.decDigits, dif_pos (by decide)]
  rfl

/-- The line of an instruction that goes to a name. -/
theorem line_goes (i : Ins) {p : Int} (hr : rightB i p = true) (hp : p ≤ 1073741824) (k0 : 0 ≤ i.k) (k1 : i.k < 4294967296) (h : goesB i = true) (nm : List UInt8) (hn : nameB nm = true) :
    lineL (headI i ++ nm) = some ({ i with pl := 0 }, nm) := by
  obtain ⟨a, ha⟩ := headI_end i
  have hs : headI i ++ nm = a ++ 32 :: nm := by rw [ha]; simp
  have h1 : lastW (headI i ++ nm) = nm := by rw [hs]; exact lastW_cat a nm (name_bf hn)
  have h2 : headW (headI i ++ nm) = headI i := by rw [hs, headW_cat a nm (name_bf hn), ha]
  have h3 : prs (headI i ++ [48]) = some { i with pl := 0 } := by
    rw [prs_iff]
    refine ⟨right_zero hr h (by decide), k0, k1, ?_⟩
    rw [text_goes _ (goes_zero h) (Int.le_refl 0), headI_pl i h 0]
    show headI i ++ Lib.itoa 0 = _
    rw [itoa_zero]
  unfold lineL
  rw [h2, h3, h1]
  simp only
  rw [if_pos ⟨goes_zero h, hn⟩]

theorem last_blank : ∀ s : List UInt8, Bf s ∨ ∃ a b, Bf b ∧ s = a ++ 32 :: b
  | [] => .inl (by unfold Bf; simp)
  | c :: r => by
    rcases last_blank r with h | ⟨a, b, hb, rfl⟩
    · by_cases hc : c = 32
      · exact .inr ⟨[], r, h, by rw [hc]; rfl⟩
      · refine .inl fun x hx => ?_
        rcases List.mem_cons.1 hx with rfl | hx
        · exact hc
        · exact h x hx
    · exact .inr ⟨c :: a, b, hb, rfl⟩

/-- A text begins with its op's name, and goes on behind a blank. -/
theorem text_first {i : Ins} {p : Int} (hr : rightB i p = true) : ∃ r, textL i = nmL i.op ++ 32 :: r := by
  have hh := right_hs hr
  obtain ⟨op, d, s, t, u, a, k, pl⟩ := i
  simp only at hh
  rcases op_cases op with rfl | rfl | rfl | rfl | rfl | rfl | rfl | rfl | rfl | rfl | rfl | rfl | rfl | rfl | rfl | rfl | rfl | rfl | rfl | rfl | rfl | hn
  all_goals first
    | exact absurd (hs_none hn).1 hh
    | (unfold textL partsL; simp only [hsL]; simp [partL, getI])
theorem text_head {i : Ins} {p : Int} (hr : rightB i p = true) : (wordsL (textL i)).head? = some (nmL i.op) := by
  obtain ⟨r, h⟩ := text_first hr
  rw [h, wordsL_cat, wordsL_one _ (nm_bf _)]
  rfl
theorem text_count {i : Ins} {p : Int} (hr : rightB i p = true) (hp : p ≤ 1073741824) (k0 : 0 ≤ i.k) (k1 : i.k < 4294967296) (h : i.op = 21) : (i.pl = -1 ∧ (wordsL (textL i)).length = 6) ∨ (0 ≤ i.pl ∧ (wordsL (textL i)).length = 8) := by
  obtain ⟨hd, hs, ht, hu, ha⟩ := right_regs i _ hr
  obtain ⟨op, d, s, t, u, a, k, pl⟩ := i
  simp only at hd hs ht hu ha k0 k1 h
  subst h
  have hr2 := right_more hp hr
  have hr3 := right_21 d s t u a k pl 1073741824 hd hs ht hu ha k0 k1
  rw [hr2] at hr3
  simp [eqI] at hr3
  obtain ⟨dn, rfl⟩ : ∃ n : Nat, d = n := ⟨d.toNat, by omega⟩
  obtain ⟨sn, rfl⟩ : ∃ n : Nat, s = n := ⟨s.toNat, by omega⟩
  obtain ⟨tn, rfl⟩ : ∃ n : Nat, t = n := ⟨t.toNat, by omega⟩
  obtain ⟨un, rfl⟩ : ∃ n : Nat, u = n := ⟨u.toNat, by omega⟩
  obtain ⟨an, rfl⟩ : ∃ n : Nat, a = n := ⟨a.toNat, by omega⟩
  obtain ⟨kn, rfl⟩ : ∃ n : Nat, k = n := ⟨k.toNat, by omega⟩
  obtain rfl : un = 0 := by omega
  by_cases hm : pl = -1
  · subst hm
    refine .inl ⟨rfl, ?_⟩
    by_cases hk : kn = 0
    · subst hk
      exact congrArg List.length (words_21_0m dn sn tn an 0)
    · obtain rfl : kn = 1 := by omega
      exact congrArg List.length (words_21_1m dn sn tn an 0)
  · obtain ⟨pn, rfl⟩ : ∃ n : Nat, pl = n := ⟨pl.toNat, by omega⟩
    refine .inr ⟨by simp, ?_⟩
    by_cases hk : kn = 0
    · subst hk
      exact congrArg List.length (words_21_0p dn sn tn an pn)
    · obtain rfl : kn = 1 := by omega
      exact congrArg List.length (words_21_1p dn sn tn an pn)

/-- The line of an instruction that goes nowhere. -/
theorem line_stay (i : Ins) {p : Int} (hr : rightB i p = true) (hp : p ≤ 1073741824) (k0 : 0 ≤ i.k) (k1 : i.k < 4294967296) (h : goesB i = false) : lineL (textL i) = some (i, []) := by
  have hr2 := right_more hp hr
  have h0 : prs (textL i) = some i := (prs_iff _ _).2 ⟨hr2, k0, k1, rfl⟩
  unfold lineL
  cases hj : prs (headW (textL i) ++ [48]) with
  | none => simp only [h0, h]; rfl
  | some j =>
    simp only
    rw [if_neg, h0]
    · simp only [h]; rfl
    · rintro ⟨hg, -⟩
      obtain ⟨jr, j0, j1, jt⟩ := (prs_iff _ _).1 hj
      rcases last_blank (textL i) with hb | ⟨a, b, hb, hs⟩
      · obtain ⟨r, hr3⟩ := text_first hr
        rw [hr3] at hb
        exact hb 32 (by simp) rfl
      · rw [hs, headW_cat a b hb] at jt
        have jt2 : textL j = a ++ 32 :: [48] := by rw [jt]; simp
        have w1 : wordsL (textL i) = wordsL a ++ [b] := by rw [hs, wordsL_cat, wordsL_one b hb]
        have w2 : wordsL (textL j) = wordsL a ++ [[48]] := by rw [jt2, wordsL_cat, wordsL_one [48] (by simp)]
        have e1 := text_head hr
        have e2 := text_head jr
        rw [w1] at e1
        rw [w2] at e2
        have hop : i.op = j.op := by
          refine nm_inj hr jr ?_
          cases hw : wordsL a with
          | nil => exact absurd hw (wordsL_ne a)
          | cons x y =>
            rw [hw] at e1 e2
            simp at e1 e2
            rw [← e1, ← e2]
        rcases goes_cases hg with e | e | e | ⟨e, e3⟩
        · unfold goesB at h; rw [hop, e] at h; revert h; simp
        · unfold goesB at h; rw [hop, e] at h; revert h; simp
        · unfold goesB at h; rw [hop, e] at h; revert h; simp
        · have c1 := text_count hr hp k0 k1 (hop.trans e)
          have c2 := text_count jr (Int.le_refl _) j0 j1 e
          rw [w1] at c1
          rw [w2] at c2
          simp only [List.length_append, List.length_cons, List.length_nil] at c1 c2
          have : ¬ 0 ≤ i.pl := by
            unfold goesB at h
            rw [hop, e] at h
            simp at h
            omega
          omega

/-- A line of an instruction is no label's. -/
theorem lb_no {s a b : List UInt8} (h : s = a ++ 32 :: b) (hb : b ≠ []) : lbB s = false := by
  rw [Bool.eq_false_iff]
  intro hl
  unfold lbB at hl
  simp only [Bool.and_eq_true] at hl
  have hn := name_bf hl.2.2
  refine hn 32 ?_ rfl
  rw [h, List.dropLast_append_of_ne_nil (by simp)]
  cases b with
  | nil => exact absurd rfl hb
  | cons x y => simp
theorem lb_yes {s : List UInt8} (h : nameB s = true) : lbB (s ++ [58]) = true := by
  unfold lbB
  simp [h]
end Go.Proofs.YteohnkilchkhkaaGreatDoor

/- What is assembled of a program's own text is the program. No walk stands here. -/
namespace Go.Proofs.YteohnkilchkhkaaGreatDoor
set_option linter.unusedVariables false

/-- A line, as what it is: a label, or an instruction with the name of its place. -/
inductive Tok where
  | lab (nm : List UInt8)
  | ins (i : Ins) (nm s : List UInt8)
def Tok.text : Tok → List UInt8
  | .lab nm => nm ++ [58]
  | .ins _ _ s => s
def Tok.Ok : Tok → Prop
  | .lab nm => nameB nm = true
  | .ins i nm s => lbB s = false ∧ lineL s = some (i, nm)
def labsT : List Tok → Int → List (List UInt8 × Int)
  | [], _ => []
  | .lab nm :: m, k => (nm, k) :: labsT m k
  | .ins _ _ _ :: m, k => labsT m (k + 1)
def rowsT : List Tok → Int → List (Ins × List UInt8 × Int)
  | [], _ => []
  | .lab _ :: m, n => rowsT m (n + 1)
  | .ins i nm _ :: m, n => (i, nm, n) :: rowsT m (n + 1)
def namesT : List Tok → List (List UInt8)
  | [] => []
  | .lab nm :: m => nm :: namesT m
  | .ins _ _ _ :: m => namesT m

theorem names_labs : ∀ (toks : List Tok) (k : Int), (labsT toks k).map (·.1) = namesT toks
  | [], _ => rfl
  | .lab nm :: m, k => by simp [labsT, namesT, names_labs m k]
  | .ins _ _ _ :: m, k => by simp [labsT, namesT, names_labs m (k + 1)]

theorem asm1_toks : ∀ (toks : List Tok) (n : Int) (ls : List (List UInt8 × Int)) (rs : List (Ins × List UInt8 × Int)), (∀ t ∈ toks, t.Ok) → (ls.map (·.1) ++ namesT toks).Nodup → rs.length + (rowsT toks n).length ≤ 64 →
    asm1 (toks.map Tok.text) n ls rs = .inr (ls ++ labsT toks rs.length, rs ++ rowsT toks n)
  | [], n, ls, rs, _, _, _ => by simp [asm1, labsT, rowsT]
  | .lab nm :: m, n, ls, rs, hok, hnd, hc => by
    have h1 : nameB nm = true := hok _ List.mem_cons_self
    have hany : (ls.any fun x => x.1 == nm) = false := by
      rw [Bool.eq_false_iff]
      intro h
      obtain ⟨x, hx, he⟩ := List.any_eq_true.1 h
      have he2 : x.1 = nm := by simpa using he
      have := (List.nodup_append.1 hnd).2.2 x.1 (List.mem_map.2 ⟨x, hx, rfl⟩) nm (by simp [namesT])
      exact this he2
    have ih := asm1_toks m (n + 1) (ls ++ [(nm, (rs.length : Int))]) rs (fun t ht => hok t (List.mem_cons_of_mem _ ht)) (by simpa [namesT] using hnd) (by simpa [rowsT] using hc)
    simp only [List.map_cons, Tok.text, asm1, lb_yes h1, if_pos, List.dropLast_concat, hany]
    rw [if_neg (by decide), ih]
    simp [labsT, rowsT]
  | .ins i nm s :: m, n, ls, rs, hok, hnd, hc => by
    obtain ⟨h1, h2⟩ : lbB s = false ∧ lineL s = some (i, nm) := hok _ List.mem_cons_self
    have hc2 : rs.length + ((rowsT m (n + 1)).length + 1) ≤ 64 := by simpa [rowsT] using hc
    have ih := asm1_toks m (n + 1) ls (rs ++ [(i, nm, n)]) (fun t ht => hok t (List.mem_cons_of_mem _ ht)) (by simpa [namesT] using hnd) (by simp; omega)
    simp only [List.map_cons, Tok.text, asm1, h1, h2]
    rw [if_neg (by decide), if_neg (by omega), ih]
    simp [labsT, rowsT]

theorem find_mem : ∀ (ls : List (List UInt8 × Int)) (s : List UInt8) (p n : Int), (ls.map (·.1)).Nodup → (s, p) ∈ ls → p < n → findL ls s n = p
  | [], s, p, n, _, h, _ => by simp at h
  | (x, q) :: m, s, p, n, hnd, h, hp => by
    unfold findL
    by_cases e : (s, p) = (x, q)
    · injection e with e1 e2
      subst e1 e2
      simp [hp]
    · have hm : (s, p) ∈ m := by
        rcases List.mem_cons.1 h with h | h
        · exact absurd h e
        · exact h
      have hne : x ≠ s := by
        rintro rfl
        have h2 : x ∉ m.map (·.1) := (List.nodup_cons.1 hnd).1
        exact h2 (List.mem_map.2 ⟨(x, p), hm, rfl⟩)
      have ih := find_mem m s p n (List.nodup_cons.1 hnd).2 hm hp
      unfold findL at ih
      rw [List.find?_cons_of_neg (by simp [hne])]
      exact ih

theorem asm2_all (ls : List (List UInt8 × Int)) (n : Int) : ∀ (rs : List (Ins × List UInt8 × Int)), (∀ r ∈ rs, r.2.1 = [] ∨ 0 ≤ findL ls r.2.1 n) →
    asm2 ls n rs = .inr (rs.map fun r => if r.2.1 = [] then r.1 else { r.1 with pl := findL ls r.2.1 n })
  | [], _ => rfl
  | (i, nm, row) :: m, h => by
    have ih := asm2_all ls n m fun r hr => h r (List.mem_cons_of_mem _ hr)
    have h1 := h _ List.mem_cons_self
    simp only at h1
    unfold asm2
    by_cases e : nm = []
    · rw [if_pos e, ih]
      simp [e]
    · rw [if_neg e, if_neg (by rcases h1 with h1 | h1; exact absurd h1 e; omega), ih]
      simp [e]

-- lines
def Nl (s : List UInt8) : Prop := ∀ c ∈ s, c ≠ 10
theorem Nl.app {a b : List UInt8} (ha : Nl a) (hb : Nl b) : Nl (a ++ b) := fun c hc => by
  rcases List.mem_append.1 hc with h | h
  · exact ha c h
  · exact hb c h
theorem piecesL_ne : ∀ s : List UInt8, piecesL s ≠ []
  | [] => by simp [piecesL]
  | c :: r => by
    unfold piecesL
    split
    · simp
    · cases h : piecesL r with
      | nil => simp [ahead]
      | cons a b => simp [ahead]
theorem pieces_more : ∀ (t r : List UInt8), Nl t → piecesL (t ++ 10 :: r) = t :: piecesL r
  | [], r, _ => by simp [piecesL]
  | c :: t, r, h => by
    have ih := pieces_more t r fun d hd => h d (List.mem_cons_of_mem _ hd)
    show piecesL (c :: (t ++ 10 :: r)) = _
    rw [piecesL, if_neg (h c List.mem_cons_self), ih]
    rfl
theorem pieces_lines : ∀ (l : List (List UInt8)), (∀ s ∈ l, Nl s) → piecesL (l.flatMap fun s => s ++ [10]) = l ++ [[]]
  | [], _ => rfl
  | s :: m, h => by
    have ih := pieces_lines m fun x hx => h x (List.mem_cons_of_mem _ hx)
    rw [List.flatMap_cons, List.append_assoc]
    show piecesL (s ++ 10 :: (m.flatMap fun s => s ++ [10])) = _
    rw [pieces_more s _ (h s List.mem_cons_self), ih]
    rfl

/-- What the rows of a program are. -/
def rowI (c : Prg) (i : Ins) : Ins × List UInt8 := if goesB i = true then ({ i with pl := 0 }, labelL c i.pl) else (i, [])

def finQ (ls : List (List UInt8 × Int)) (n : Int) (q : Ins × List UInt8) : Ins := if q.2 = [] then q.1 else { q.1 with pl := findL ls q.2 n }

theorem label_ne (c : Prg) (k : Int) : labelL c k ≠ [] := by
  unfold labelL lockW unlockW
  split
  · simp
  · split <;> simp
theorem label_at (c : Prg) (i : Ins) (hi : i ∈ c.l) (hg : goesB i = true) : labelL c i.pl ∈ labsAt c i.pl := by
  by_cases h1 : i.pl = c.lo
  · rw [show labelL c i.pl = lockW by unfold labelL; rw [if_pos h1]]
    unfold labsAt
    simp [h1]
  · by_cases h2 : i.pl = c.un
    · rw [show labelL c i.pl = unlockW by unfold labelL; rw [if_neg h1, if_pos h2]]
      unfold labsAt
      refine List.mem_append.2 (.inr (List.mem_append.2 (.inl ?_)))
      rw [if_pos h2]
      exact List.mem_cons_self
    · have hw : wantB c i.pl = true := by
        unfold wantB
        rw [List.any_eq_true]
        exact ⟨i, hi, by simp [hg]⟩
      unfold labsAt
      simp [h1, h2, hw]

/-- Lines that hold a program's labels, and its instructions in order, and labels besides: what is assembled of them is the program. -/
theorem asm_prog (c : Prg) (hc : prgB c = true) (toks : List Tok) (hok : ∀ t ∈ toks, t.Ok) (hnd : (namesT toks).Nodup) (hnl : ∀ t ∈ toks, Nl t.text)
    (hrows : (rowsT toks 1).map (fun r => (r.1, r.2.1)) = c.l.map (rowI c)) (hl : ∀ (j : Int) (x : List UInt8), 0 ≤ j → j < c.l.length → x ∈ labsAt c j → (x, j) ∈ labsT toks 0) :
    asmL ((toks.map Tok.text).flatMap fun s => s ++ [10]) = (c, 0, 0) := by
  unfold prgB at hc
  simp only [Bool.and_eq_true, decide_eq_true_eq, List.all_eq_true] at hc
  obtain ⟨c1, c2, c3, c4, c5, c6, c7⟩ := hc
  have hlen : (rowsT toks 1).length = c.l.length := by
    have := congrArg List.length hrows
    simpa using this
  have hp := pieces_lines (toks.map Tok.text) (by
    intro s hs
    obtain ⟨t, ht, rfl⟩ := List.mem_map.1 hs
    exact hnl t ht)
  have h1 := asm1_toks toks 1 [] [] hok (by simpa using hnd) (by simpa [hlen] using c2)
  simp only [List.nil_append, List.length_nil, Int.ofNat_zero] at h1
  have hfnd : ∀ (j : Int) (x : List UInt8), 0 ≤ j → j < c.l.length → x ∈ labsAt c j → findL (labsT toks 0) x c.l.length = j := fun j x j0 j1 hx =>
    find_mem _ _ _ _ (by rw [names_labs]; exact hnd) (hl j x j0 j1 hx) j1
  have hlo : findL (labsT toks 0) lockW c.l.length = c.lo := hfnd c.lo lockW c3 c5 (by unfold labsAt; simp)
  have hun : findL (labsT toks 0) unlockW c.l.length = c.un := hfnd c.un unlockW c4 c6 (by unfold labsAt; simp)
  have hgo : ∀ i ∈ c.l, goesB i = true → findL (labsT toks 0) (labelL c i.pl) c.l.length = i.pl := fun i hi hg =>
    hfnd i.pl _ (goes_pl (c7 i hi) hg).1 (goes_pl (c7 i hi) hg).2 (label_at c i hi hg)
  have h2 : asm2 (labsT toks 0) c.l.length (rowsT toks 1) = .inr c.l := by
    have e : ∀ r ∈ rowsT toks 1, ∃ i ∈ c.l, (r.1, r.2.1) = rowI c i := fun r hr => by
      have : (r.1, r.2.1) ∈ c.l.map (rowI c) := by rw [← hrows]; exact List.mem_map.2 ⟨r, hr, rfl⟩
      obtain ⟨i, hi, he⟩ := List.mem_map.1 this
      exact ⟨i, hi, he.symm⟩
    rw [asm2_all]
    · congr 1
      have e2 : (rowsT toks 1).map (fun r => if r.2.1 = [] then r.1 else { r.1 with pl := findL (labsT toks 0) r.2.1 c.l.length }) =
          ((rowsT toks 1).map fun r => (r.1, r.2.1)).map (finQ (labsT toks 0) c.l.length) := by
        rw [List.map_map]; rfl
      rw [e2, hrows, List.map_map]
      conv => rhs; rw [← List.map_id c.l]
      refine List.map_congr_left fun i hi => ?_
      show finQ (labsT toks 0) c.l.length (rowI c i) = i
      by_cases hg : goesB i = true
      · rw [show rowI c i = ({ i with pl := 0 }, labelL c i.pl) from if_pos hg]
        unfold finQ
        simp only
        rw [if_neg (label_ne c _), hgo i hi hg]
      · rw [show rowI c i = (i, []) from if_neg hg]
        rfl
    · intro r hr
      obtain ⟨i, hi, he⟩ := e r hr
      unfold rowI at he
      by_cases hg : goesB i = true
      · rw [if_pos hg] at he
        injection he with e3 e4
        right
        rw [e4, hgo i hi hg]
        exact (goes_pl (c7 i hi) hg).1
      · rw [if_neg hg] at he
        injection he with e3 e4
        exact .inl e4
  unfold asmL
  rw [hp, List.dropLast_concat, h1]
  simp only [List.getLastD_concat, hlen, h2, hlo, hun]
  rw [if_neg (by simp), if_neg (by omega)]
end Go.Proofs.YteohnkilchkhkaaGreatDoor

/- The lines of a program's own text; labels that nothing goes to, ahead of any of them. No walk stands here. -/
namespace Go.Proofs.YteohnkilchkhkaaGreatDoor
set_option linter.unusedVariables false

theorem itoa_nn {n : Int} (h : 0 ≤ n) : Lib.itoa n = Lib.decDigits n.toNat := by unfold Lib.itoa; rw [if_neg (by omega)]
theorem itoa_inj {m n : Int} (hm : 0 ≤ m) (hn : 0 ≤ n) (h : Lib.itoa m = Lib.itoa n) : m = n := by
  rw [itoa_nn hm, itoa_nn hn] at h
  have h1 := numFrom_dec m.toNat
  rw [h, numFrom_dec n.toNat] at h1
  injection h1 with h1
  omega
theorem itoa_digit {n : Int} (h : 0 ≤ n) : ∀ c ∈ Lib.itoa n, digB c = true := by
  rw [itoa_nn h]
  intro c hc
  have := dec_digit n.toNat c hc
  unfold digB
  simp [this]
theorem itoa_nl (n : Int) : Nl (Lib.itoa n) := by
  have key : ∀ k : Nat, Nl (Lib.decDigits k) := fun k c hc e => by
    have := dec_digit k c hc
    rw [e] at this
    revert this
    decide
  unfold Lib.itoa
  split
  · intro c hc
    rcases List.mem_cons.1 hc with rfl | hc
    · decide
    · exact key _ c hc
  · exact key _

theorem name_place {n : Int} (h0 : 0 ≤ n) (h1 : n < 64) : nameB (108 :: Lib.itoa n) = true := by
  have hd := itoa_digit h0
  have hl : (Lib.itoa n).length ≤ 2 := by
    rw [itoa_nn h0]
    exact dec_len10 1 n.toNat (by omega)
  unfold nameB
  simp only [Bool.and_eq_true, decide_eq_true_eq, List.all_eq_true, List.length_cons]
  refine ⟨by omega, by omega, (show lowB 108 = true by decide), fun c hc => ?_⟩
  rcases List.mem_cons.1 hc with rfl | hc
  · decide
  · simp [hd c hc]
theorem name_label (c : Prg) {k : Int} (h0 : 0 ≤ k) (h1 : k < 64) : nameB (labelL c k) = true := by
  unfold labelL
  split
  · decide
  · split
    · decide
    · exact name_place h0 h1
theorem labs_cases {c : Prg} {k : Int} {x : List UInt8} (h : x ∈ labsAt c k) : (x = lockW ∧ k = c.lo) ∨ (x = unlockW ∧ k = c.un) ∨ (x = 108 :: Lib.itoa k ∧ k ≠ c.lo ∧ k ≠ c.un) := by
  unfold labsAt at h
  rcases List.mem_append.1 h with h | h
  · split at h
    · exact .inl ⟨by simpa using h, by assumption⟩
    · simp at h
  · rcases List.mem_append.1 h with h | h
    · split at h
      · exact .inr (.inl ⟨by simpa using h, by assumption⟩)
      · simp at h
    · split at h
      · rename_i hw
        refine .inr (.inr ⟨?_, hw.2⟩)
        have : x = labelL c k := by simpa using h
        rw [this]
        unfold labelL
        rw [if_neg hw.2.1, if_neg hw.2.2]
      · simp at h
theorem labs_name {c : Prg} {k : Int} {x : List UInt8} (h : x ∈ labsAt c k) (h0 : 0 ≤ k) (h1 : k < 64) : nameB x = true := by
  rcases labs_cases h with ⟨rfl, -⟩ | ⟨rfl, -⟩ | ⟨rfl, -⟩
  · decide
  · decide
  · exact name_place h0 h1
theorem lock_no {n : Int} (h : 0 ≤ n) : lockW ≠ 108 :: Lib.itoa n := by
  intro e
  unfold lockW at e
  injection e with _ e
  have := itoa_digit h 111 (by rw [← e]; simp)
  revert this
  decide
theorem unlock_no (n : Int) : unlockW ≠ 108 :: Lib.itoa n := by
  intro e
  unfold unlockW at e
  injection e with e _
  revert e
  decide
theorem labs_place {c : Prg} {j k : Int} {x : List UInt8} (j0 : 0 ≤ j) (k0 : 0 ≤ k) (hj : x ∈ labsAt c j) (hk : x ∈ labsAt c k) : j = k := by
  rcases labs_cases hj with ⟨e1, h1⟩ | ⟨e1, h1⟩ | ⟨e1, h1⟩ <;> rcases labs_cases hk with ⟨e2, h2⟩ | ⟨e2, h2⟩ | ⟨e2, h2⟩
  · omega
  · rw [e1] at e2; exact absurd e2 (by decide)
  · rw [e1] at e2; exact absurd e2 (lock_no k0)
  · rw [e1] at e2; exact absurd e2 (by decide)
  · omega
  · rw [e1] at e2; exact absurd e2 (unlock_no k)
  · rw [e2] at e1; exact absurd e1 (lock_no j0)
  · rw [e2] at e1; exact absurd e1 (unlock_no j)
  · rw [e1] at e2
    injection e2 with _ e2
    exact itoa_inj j0 k0 e2
theorem labs_nodup (c : Prg) (k : Int) : (labsAt c k).Nodup := by
  have hne : lockW ≠ unlockW := by decide
  unfold labsAt
  by_cases h1 : k = c.lo
  · by_cases h2 : k = c.un
    · rw [if_pos h1, if_pos h2, if_neg (fun h => h.2.1 h1)]; simp [hne]
    · rw [if_pos h1, if_neg h2, if_neg (fun h => h.2.1 h1)]; simp
  · by_cases h2 : k = c.un
    · rw [if_neg h1, if_pos h2, if_neg (fun h => h.2.2 h2)]; simp
    · rw [if_neg h1, if_neg h2]; split <;> simp
theorem labs_len (c : Prg) (k : Int) : (labsAt c k).length ≤ 3 := by
  unfold labsAt
  simp only [List.length_append]
  repeat' split
  all_goals simp

/-- The lines of a program, as what they are. -/
def toksFrom (c : Prg) : List Ins → Int → List Tok
  | [], _ => []
  | i :: more, k => (labsAt c k).map Tok.lab ++ Tok.ins (rowI c i).1 (rowI c i).2 (insLine c i) :: toksFrom c more (k + 1)
theorem toks_text (c : Prg) : ∀ (l : List Ins) (k : Int), (toksFrom c l k).map Tok.text = linesFrom c l k
  | [], _ => rfl
  | i :: m, k => by
    simp only [toksFrom, linesFrom, List.map_append, List.map_map, List.map_cons, toks_text c m (k + 1)]
    rfl

theorem names_app : ∀ (a b : List Tok), namesT (a ++ b) = namesT a ++ namesT b
  | [], b => rfl
  | .lab nm :: a, b => by simp [namesT, names_app a b]
  | .ins _ _ _ :: a, b => by simp [namesT, names_app a b]
theorem names_lab : ∀ l : List (List UInt8), namesT (l.map Tok.lab) = l
  | [] => rfl
  | x :: l => by simp [namesT, names_lab l]
theorem names_toks (c : Prg) (i : Ins) (m : List Ins) (k : Int) : namesT (toksFrom c (i :: m) k) = labsAt c k ++ namesT (toksFrom c m (k + 1)) := by
  rw [toksFrom, names_app, names_lab]
  rfl
theorem names_mem (c : Prg) : ∀ (l : List Ins) (k : Int) (x : List UInt8), x ∈ namesT (toksFrom c l k) → ∃ j, k ≤ j ∧ j < k + l.length ∧ x ∈ labsAt c j
  | [], k, x, h => by simp [toksFrom, namesT] at h
  | i :: m, k, x, h => by
    rw [names_toks] at h
    rcases List.mem_append.1 h with h | h
    · exact ⟨k, Int.le_refl _, by simp; omega, h⟩
    · obtain ⟨j, h1, h2, h3⟩ := names_mem c m (k + 1) x h
      exact ⟨j, by omega, by simp; omega, h3⟩
theorem names_nodup (c : Prg) : ∀ (l : List Ins) (k : Int), 0 ≤ k → (namesT (toksFrom c l k)).Nodup
  | [], k, _ => by simp [toksFrom, namesT]
  | i :: m, k, h => by
    rw [names_toks, List.nodup_append]
    refine ⟨labs_nodup c k, names_nodup c m (k + 1) (by omega), fun x hx y hy e => ?_⟩
    subst e
    obtain ⟨j, h1, h2, h3⟩ := names_mem c m (k + 1) x hy
    have := labs_place h (by omega) hx h3
    omega

theorem labsT_app : ∀ (a b : List Tok) (k : Int), labsT (a ++ b) k = labsT a k ++ labsT b (k + (rowsT a 0).length)
  | [], b, k => by simp [labsT, rowsT]
  | .lab nm :: a, b, k => by
    have : (rowsT a (0 + 1)).length = (rowsT a 0).length := rows_len a _ _
    simp only [List.cons_append, labsT, rowsT, labsT_app a b k, this]
  | .ins _ _ _ :: a, b, k => by
    have : (rowsT a (0 + 1)).length = (rowsT a 0).length := rows_len a _ _
    simp only [List.cons_append, labsT, rowsT, labsT_app a b (k + 1), List.length_cons, this]
    congr 2
    simp
    omega
where
  rows_len : ∀ (a : List Tok) (m n : Int), (rowsT a m).length = (rowsT a n).length
    | [], _, _ => rfl
    | .lab _ :: a, m, n => by simp only [rowsT]; exact rows_len a _ _
    | .ins _ _ _ :: a, m, n => by simp only [rowsT, List.length_cons]; rw [rows_len a _ _]
theorem rows_lab (l : List (List UInt8)) (n : Int) : rowsT (l.map Tok.lab) n = [] := by
  induction l generalizing n with
  | nil => rfl
  | cons x l ih => simp only [List.map_cons, rowsT]; exact ih _
theorem labsT_lab (l : List (List UInt8)) (k : Int) : labsT (l.map Tok.lab) k = l.map fun x => (x, k) := by
  induction l with
  | nil => rfl
  | cons x l ih => simp only [List.map_cons, labsT, ih]
theorem labsT_toks (c : Prg) (i : Ins) (m : List Ins) (k q : Int) : labsT (toksFrom c (i :: m) k) q = (labsAt c k).map (fun x => (x, q)) ++ labsT (toksFrom c m (k + 1)) (q + 1) := by
  rw [toksFrom, labsT_app, rows_lab, labsT_lab]
  simp [labsT]
theorem labs_mem (c : Prg) : ∀ (l : List Ins) (k j : Int) (x : List UInt8), k ≤ j → j < k + l.length → x ∈ labsAt c j → (x, j) ∈ labsT (toksFrom c l k) k
  | [], k, j, x, h1, h2, _ => by simp at h2; omega
  | i :: m, k, j, x, h1, h2, h => by
    rw [labsT_toks]
    by_cases e : j = k
    · subst e
      exact List.mem_append.2 (.inl (List.mem_map.2 ⟨x, h, rfl⟩))
    · exact List.mem_append.2 (.inr (labs_mem c m (k + 1) j x (by omega) (by simp at h2; omega) h))
theorem rowsT_app : ∀ (a b : List Tok) (n : Int), rowsT (a ++ b) n = rowsT a n ++ rowsT b (n + a.length)
  | [], b, n => by simp [rowsT]
  | .lab nm :: a, b, n => by
    simp only [List.cons_append, rowsT, rowsT_app a b (n + 1), List.length_cons]
    congr 2
    simp
    omega
  | .ins _ _ _ :: a, b, n => by
    simp only [List.cons_append, rowsT, rowsT_app a b (n + 1), List.length_cons]
    congr 3
    simp
    omega
theorem rows_toks (c : Prg) : ∀ (l : List Ins) (k n : Int), (rowsT (toksFrom c l k) n).map (fun r => (r.1, r.2.1)) = l.map (rowI c)
  | [], _, _ => rfl
  | i :: m, k, n => by
    rw [toksFrom, rowsT_app, rows_lab]
    simp [rowsT, rows_toks c m]

theorem nm_nl (op : Int) : Nl (nmL op) := by
  rcases op_cases op with rfl | rfl | rfl | rfl | rfl | rfl | rfl | rfl | rfl | rfl | rfl | rfl | rfl | rfl | rfl | rfl | rfl | rfl | rfl | rfl | rfl | hn
  all_goals first | (unfold Nl; decide) | (rw [(hs_none hn).2]; unfold Nl; simp)
theorem part_nl (i : Ins) (x : Int) : Nl (partL i x) := by
  have key : ∀ (a : List UInt8) (n : Int), (∀ y ∈ a, y ≠ 10) → Nl (a ++ Lib.itoa n) := fun a n ha => Nl.app ha (itoa_nl n)
  have k1 : ∀ n : Int, Nl (32 :: Lib.itoa n) := fun n => key [32] n (by decide)
  unfold partL
  repeat' split
  all_goals first
    | exact k1 _
    | exact key _ _ (by decide)
    | (unfold Nl; decide)
theorem parts_nl (i : Ins) : ∀ l : List UInt8, Nl (partsL i l)
  | [] => by unfold Nl partsL; simp
  | x :: l => by
    have : partsL i (x :: l) = partL i x.toNat ++ partsL i l := by simp [partsL]
    rw [this]
    exact Nl.app (part_nl i _) (parts_nl i l)
theorem text_nl (i : Ins) : Nl (textL i) := Nl.app (nm_nl _) (parts_nl i _)
theorem head_nl (i : Ins) : Nl (headI i) := by
  unfold headI
  refine Nl.app (Nl.app (nm_nl _) (parts_nl i _)) ?_
  split <;> (unfold Nl; decide)
theorem name_nl {s : List UInt8} (h : nameB s = true) : Nl s := by
  unfold nameB at h
  simp only [Bool.and_eq_true] at h
  intro c hc e
  have := List.all_eq_true.1 h.2.2.2 c hc
  subst e
  revert this
  decide

theorem itoa_ne (n : Int) : Lib.itoa n ≠ [] := by
  unfold Lib.itoa
  split
  · simp
  · obtain ⟨c, r, h, -⟩ := dec_cons n.toNat
    rw [h]
    simp
theorem text_rest {i : Ins} {p : Int} (hr : rightB i p = true) : ∃ r, textL i = nmL i.op ++ 32 :: r ∧ r ≠ [] := by
  have hh := right_hs hr
  have hi := itoa_ne
  obtain ⟨op, d, s, t, u, a, k, pl⟩ := i
  simp only at hh
  rcases op_cases op with rfl | rfl | rfl | rfl | rfl | rfl | rfl | rfl | rfl | rfl | rfl | rfl | rfl | rfl | rfl | rfl | rfl | rfl | rfl | rfl | rfl | hn
  all_goals first
    | exact absurd (hs_none hn).1 hh
    | (unfold textL partsL; simp only [hsL]; simp [partL, getI, hi])

theorem row_ok (c : Prg) (i : Ins) (hr : rightB i c.l.length = true) (hc : c.l.length ≤ 64) (k0 : 0 ≤ i.k) (k1 : i.k < 4294967296) : (Tok.ins (rowI c i).1 (rowI c i).2 (insLine c i)).Ok ∧ Nl (insLine c i) := by
  unfold Tok.Ok insLine
  simp only
  by_cases hg : goesB i = true
  · have hp := goes_pl hr hg
    have hn := name_label c hp.1 (by omega : i.pl < 64)
    rw [if_pos hg, show rowI c i = ({ i with pl := 0 }, labelL c i.pl) from if_pos hg]
    obtain ⟨a, ha⟩ := headI_end i
    exact ⟨⟨lb_no (a := a) (b := labelL c i.pl) (by rw [ha]; simp) (label_ne c _), line_goes i hr (by omega) k0 k1 hg _ hn⟩, Nl.app (head_nl i) (name_nl hn)⟩
  · rw [if_neg hg, show rowI c i = (i, []) from if_neg hg]
    obtain ⟨r, h1, h2⟩ := text_rest hr
    exact ⟨⟨lb_no h1 h2, line_stay i hr (by omega) k0 k1 (by simpa using hg)⟩, text_nl i⟩
theorem toks_ok (c : Prg) (hc : c.l.length ≤ 64) : ∀ (l : List Ins) (k : Int), 0 ≤ k → k + l.length ≤ 64 → (∀ i ∈ l, rightB i c.l.length = true ∧ 0 ≤ i.k ∧ i.k < 4294967296) → ∀ t ∈ toksFrom c l k, t.Ok ∧ Nl t.text
  | [], k, _, _, _, t, ht => by simp [toksFrom] at ht
  | i :: m, k, h0, h1, h, t, ht => by
    rw [toksFrom] at ht
    simp only [List.length_cons] at h1
    rcases List.mem_append.1 ht with ht | ht
    · obtain ⟨x, hx, rfl⟩ := List.mem_map.1 ht
      have hn := labs_name hx h0 (by omega)
      exact ⟨hn, Nl.app (name_nl hn) (by unfold Nl; decide)⟩
    · rcases List.mem_cons.1 ht with rfl | ht
      · obtain ⟨a, b, d⟩ := h i List.mem_cons_self
        exact row_ok c i a hc b d
      · exact toks_ok c hc m (k + 1) (by omega) (by omega) (fun i hi => h i (List.mem_cons_of_mem _ hi)) t ht

theorem prg_facts {c : Prg} (h : prgB c = true) : c.l.length ≤ 64 ∧ ∀ i ∈ c.l, rightB i c.l.length = true := by
  unfold prgB at h
  simp only [Bool.and_eq_true, decide_eq_true_eq, List.all_eq_true] at h
  exact ⟨h.2.1, h.2.2.2.2.2.2⟩

/-- What is assembled of a program's own text is the program. -/
theorem asm_print (c : Prg) (hc : prgB c = true) (hk : ∀ i ∈ c.l, 0 ≤ i.k ∧ i.k < 4294967296) : asmL (printL c) = (c, 0, 0) := by
  obtain ⟨h1, h2⟩ := prg_facts hc
  have hok := toks_ok c h1 c.l 0 (by omega) (by omega) fun i hi => ⟨h2 i hi, hk i hi⟩
  unfold printL
  rw [← toks_text]
  exact asm_prog c hc _ (fun t ht => (hok t ht).1) (names_nodup c _ _ (by omega)) (fun t ht => (hok t ht).2) (rows_toks c _ _ _)
    fun j x j0 j1 hx => labs_mem c c.l 0 j x j0 (by omega) hx
end Go.Proofs.YteohnkilchkhkaaGreatDoor

/- Labels besides change nothing; what is assembled is right; one instruction too many is told. No walk stands here. -/
namespace Go.Proofs.YteohnkilchkhkaaGreatDoor
set_option linter.unusedVariables false

/-- The name of the label number k besides. -/
def xnameL (k : Nat) : List UInt8 := [120, UInt8.ofNat (97 + k / 26 % 26), UInt8.ofNat (97 + k % 26)]
theorem xname_name (k : Nat) : nameB (xnameL k) = true := by
  have h1 : k / 26 % 26 < 26 := Nat.mod_lt _ (by decide)
  have h2 : k % 26 < 26 := Nat.mod_lt _ (by decide)
  have key : ∀ n, n < 26 → lowB (UInt8.ofNat (97 + n)) = true := by decide
  unfold nameB xnameL
  simp only [List.length_cons, List.length_nil, List.all_cons, List.all_nil, key _ h1, key _ h2, Bool.true_or, Bool.and_true, Bool.and_self]
  rfl
theorem ofNat_inj : ∀ m, m < 26 → ∀ n, n < 26 → UInt8.ofNat (97 + m) = UInt8.ofNat (97 + n) → m = n := by decide
theorem xname_inj {j k : Nat} (hj : j < 676) (hk : k < 676) (h : xnameL j = xnameL k) : j = k := by
  unfold xnameL at h
  injection h with _ h
  injection h with h1 h
  injection h with h2 _
  have e1 := ofNat_inj _ (Nat.mod_lt _ (by decide)) _ (Nat.mod_lt _ (by decide)) h1
  have e2 := ofNat_inj _ (Nat.mod_lt _ (by decide)) _ (Nat.mod_lt _ (by decide)) h2
  omega
theorem xname_no {c : Prg} {k : Int} {j : Nat} : xnameL j ∉ labsAt c k := by
  intro h
  have : (xnameL j).head? = some 120 := rfl
  rcases labs_cases h with ⟨e, -⟩ | ⟨e, -⟩ | ⟨e, -⟩ <;> (rw [e] at this; revert this)
  · decide
  · decide
  · simp

/-- So many labels ahead of each line. -/
def decoT (m : Nat) : List Tok → Nat → List Tok
  | [], _ => []
  | t :: ts, k => ((List.range m).map fun j => Tok.lab (xnameL (k + j))) ++ t :: decoT m ts (k + m)
/-- .. as lines. -/
def decoL (m : Nat) : List (List UInt8) → Nat → List (List UInt8)
  | [], _ => []
  | s :: ts, k => ((List.range m).map fun j => xnameL (k + j) ++ [58]) ++ s :: decoL m ts (k + m)
theorem deco_text (m : Nat) : ∀ (toks : List Tok) (k : Nat), (decoT m toks k).map Tok.text = decoL m (toks.map Tok.text) k
  | [], _ => rfl
  | t :: ts, k => by
    simp only [decoT, decoL, List.map_append, List.map_map, List.map_cons, deco_text m ts (k + m)]
    rfl
theorem deco_mem (m : Nat) : ∀ (toks : List Tok) (k : Nat) (t : Tok), t ∈ decoT m toks k → t ∈ toks ∨ ∃ j, k ≤ j ∧ j < k + m * toks.length ∧ t = .lab (xnameL j)
  | [], k, t, h => by simp [decoT] at h
  | x :: ts, k, t, h => by
    rw [decoT] at h
    have e : m * (x :: ts).length = m * ts.length + m := by rw [List.length_cons, Nat.mul_succ]
    rcases List.mem_append.1 h with h | h
    · obtain ⟨j, hj, rfl⟩ := List.mem_map.1 h
      have := List.mem_range.1 hj
      exact .inr ⟨k + j, by omega, by omega, rfl⟩
    · rcases List.mem_cons.1 h with rfl | h
      · exact .inl List.mem_cons_self
      · rcases deco_mem m ts (k + m) t h with h | ⟨j, h1, h2, h3⟩
        · exact .inl (List.mem_cons_of_mem _ h)
        · exact .inr ⟨j, by omega, by omega, h3⟩
theorem names_x (m k : Nat) : namesT ((List.range m).map fun j => Tok.lab (xnameL (k + j))) = (List.range m).map fun j => xnameL (k + j) := by
  have h := names_lab ((List.range m).map fun j => xnameL (k + j))
  rw [List.map_map] at h
  exact h
theorem deco_names (m : Nat) : ∀ (toks : List Tok) (k : Nat) (x : List UInt8), x ∈ namesT (decoT m toks k) → x ∈ namesT toks ∨ ∃ j, k ≤ j ∧ j < k + m * toks.length ∧ x = xnameL j
  | [], k, x, h => by simp [decoT, namesT] at h
  | t :: ts, k, x, h => by
    have e : m * (t :: ts).length = m * ts.length + m := by rw [List.length_cons, Nat.mul_succ]
    rw [decoT, names_app, names_x] at h
    rcases List.mem_append.1 h with h | h
    · obtain ⟨j, hj, rfl⟩ := List.mem_map.1 h
      have := List.mem_range.1 hj
      exact .inr ⟨k + j, by omega, by omega, rfl⟩
    · have h2 : x ∈ namesT [t] ++ namesT (decoT m ts (k + m)) := by rw [← names_app]; exact h
      rw [show t :: ts = [t] ++ ts from rfl, names_app]
      rcases List.mem_append.1 h2 with h | h
      · exact .inl (List.mem_append.2 (.inl h))
      · rcases deco_names m ts (k + m) x h with h | ⟨j, h1, h2, h3⟩
        · exact .inl (List.mem_append.2 (.inr h))
        · refine .inr ⟨j, by omega, ?_, h3⟩
          show j < k + m * (t :: ts).length
          omega
theorem deco_nodup (m : Nat) : ∀ (toks : List Tok) (k : Nat), k + m * toks.length ≤ 676 → (namesT toks).Nodup → (∀ x ∈ namesT toks, ∀ j, x ≠ xnameL j) → (namesT (decoT m toks k)).Nodup
  | [], k, _, _, _ => by simp [decoT, namesT]
  | t :: ts, k, hk, hnd, hx => by
    have e : m * (t :: ts).length = m * ts.length + m := by rw [List.length_cons, Nat.mul_succ]
    rw [show t :: ts = [t] ++ ts from rfl, names_app] at hnd hx
    have ih := deco_nodup m ts (k + m) (by omega) (List.nodup_append.1 hnd).2.1 fun x h => hx x (List.mem_append.2 (.inr h))
    rw [decoT, names_app, names_x, show t :: decoT m ts (k + m) = [t] ++ decoT m ts (k + m) from rfl, names_app]
    have r1 : ((List.range m).map fun j => xnameL (k + j)).Nodup := by
      rw [List.nodup_iff_pairwise_ne, List.pairwise_map]
      refine List.Pairwise.imp_of_mem (fun {a b} ha hb hab he => hab ?_) (List.nodup_iff_pairwise_ne.1 List.nodup_range)
      have := List.mem_range.1 ha
      have := List.mem_range.1 hb
      have := xname_inj (by omega) (by omega) he
      omega
    refine List.nodup_append.2 ⟨r1, List.nodup_append.2 ⟨(List.nodup_append.1 hnd).1, ih, ?_⟩, ?_⟩
    · intro a ha b hb he
      subst he
      rcases deco_names m ts (k + m) a hb with h | ⟨j, -, -, h⟩
      · exact (List.nodup_append.1 hnd).2.2 a ha a h rfl
      · exact hx a (List.mem_append.2 (.inl ha)) j h
    · intro a ha b hb he
      subst he
      obtain ⟨j, hj, rfl⟩ := List.mem_map.1 ha
      have hj := List.mem_range.1 hj
      rcases List.mem_append.1 hb with h | h
      · exact hx _ (List.mem_append.2 (.inl h)) (k + j) rfl
      · rcases deco_names m ts (k + m) _ h with h | ⟨j2, h1, h2, h3⟩
        · exact hx _ (List.mem_append.2 (.inr h)) (k + j) rfl
        · have := xname_inj (by omega) (by omega) h3
          omega
theorem deco_rows (m : Nat) : ∀ (toks : List Tok) (k : Nat) (n n2 : Int), (rowsT (decoT m toks k) n).map (fun r => (r.1, r.2.1)) = (rowsT toks n2).map fun r => (r.1, r.2.1)
  | [], _, _, _ => rfl
  | t :: ts, k, n, n2 => by
    have h := rows_lab ((List.range m).map fun j => xnameL (k + j)) n
    rw [List.map_map] at h
    rw [decoT, rowsT_app]
    rw [show rowsT ((List.range m).map fun j => Tok.lab (xnameL (k + j))) n = [] from h]
    cases t with
    | lab nm => simp only [List.nil_append, rowsT]; exact deco_rows m ts _ _ _
    | ins i nm s => simp only [List.nil_append, rowsT, List.map_cons]; rw [deco_rows m ts (k + m) _ (n2 + 1)]
theorem deco_labs (m : Nat) : ∀ (toks : List Tok) (k : Nat) (q : Int) (x : List UInt8 × Int), x ∈ labsT toks q → x ∈ labsT (decoT m toks k) q
  | [], _, _, x, h => by simp [labsT] at h
  | t :: ts, k, q, x, h => by
    have h1 := rows_lab ((List.range m).map fun j => xnameL (k + j)) 0
    rw [List.map_map] at h1
    rw [decoT, labsT_app]
    rw [show rowsT ((List.range m).map fun j => Tok.lab (xnameL (k + j))) 0 = [] from h1]
    refine List.mem_append.2 (.inr ?_)
    simp only [List.length_nil, Int.ofNat_zero, Int.add_zero]
    cases t with
    | lab nm =>
      simp only [labsT] at h ⊢
      rcases List.mem_cons.1 h with h | h
      · exact List.mem_cons.2 (.inl h)
      · exact List.mem_cons_of_mem _ (deco_labs m ts _ _ x h)
    | ins i nm s =>
      simp only [labsT] at h ⊢
      exact deco_labs m ts _ _ x h

theorem toks_len (c : Prg) : ∀ (l : List Ins) (k : Int), (toksFrom c l k).length ≤ 4 * l.length
  | [], _ => by simp [toksFrom]
  | i :: m, k => by
    have h := labs_len c k
    have ih := toks_len c m (k + 1)
    simp only [toksFrom, List.length_append, List.length_map, List.length_cons]
    omega

/-- What is assembled of a program's own text, with up to two labels besides ahead of each line, is the program. -/
theorem asm_deco (c : Prg) (hc : prgB c = true) (hk : ∀ i ∈ c.l, 0 ≤ i.k ∧ i.k < 4294967296) (m : Nat) (hm : m ≤ 2) : asmL ((decoL m (linesFrom c c.l 0) 0).flatMap fun s => s ++ [10]) = (c, 0, 0) := by
  obtain ⟨h1, h2⟩ := prg_facts hc
  have hok := toks_ok c h1 c.l 0 (by omega) (by omega) fun i hi => ⟨h2 i hi, hk i hi⟩
  have hlen := toks_len c c.l 0
  have hbound : 0 + m * (toksFrom c c.l 0).length ≤ 676 := by
    have : m * (toksFrom c c.l 0).length ≤ 2 * 256 := Nat.mul_le_mul hm (by omega)
    omega
  rw [← toks_text, ← deco_text]
  have hx : ∀ j, (Tok.lab (xnameL j)).Ok ∧ Nl (Tok.lab (xnameL j)).text := fun j => ⟨xname_name j, Nl.app (name_nl (xname_name j)) (by unfold Nl; decide)⟩
  have hok2 : ∀ t ∈ decoT m (toksFrom c c.l 0) 0, t.Ok ∧ Nl t.text := fun t ht => by
    rcases deco_mem m _ _ t ht with h | ⟨j, -, -, rfl⟩
    · exact hok t h
    · exact hx j
  refine asm_prog c hc _ (fun t ht => (hok2 t ht).1) (deco_nodup m _ 0 hbound (names_nodup c _ _ (by omega)) ?_) (fun t ht => (hok2 t ht).2) ?_ fun j x j0 j1 hx => deco_labs m _ _ _ _ (labs_mem c c.l 0 j x j0 (by omega) hx)
  · intro x hx j he
    obtain ⟨p, -, -, hp⟩ := names_mem c _ _ x hx
    subst he
    exact xname_no hp
  · rw [deco_rows m _ 0 1 1, rows_toks]

-- what is assembled is right
theorem line_right {s nm : List UInt8} {i : Ins} (h : lineL s = some (i, nm)) : rightB i 1073741824 = true ∧ 0 ≤ i.k ∧ i.k < 4294967296 ∧ ((nm = [] ∧ goesB i = false) ∨ (nm ≠ [] ∧ goesB i = true)) := by
  have key : ∀ j : Option Ins, prs s = j → (match j with | some j => if goesB j = true then none else some (j, ([] : List UInt8)) | none => none) = some (i, nm) → rightB i 1073741824 = true ∧ 0 ≤ i.k ∧ i.k < 4294967296 ∧ ((nm = [] ∧ goesB i = false) ∨ (nm ≠ [] ∧ goesB i = true)) := by
    intro j hj h
    cases j with
    | none => cases h
    | some j =>
      simp only at h
      split at h
      · cases h
      · rename_i hg
        injection h with h
        injection h with h1 h2
        subst h1 h2
        obtain ⟨a, b, c, -⟩ := (prs_iff _ _).1 hj
        exact ⟨a, b, c, .inl ⟨rfl, by simpa using hg⟩⟩
  unfold lineL at h
  split at h
  · rename_i j hj
    split at h
    · rename_i hg
      injection h with h
      injection h with h1 h2
      subst h1 h2
      obtain ⟨a, b, c, -⟩ := (prs_iff _ _).1 hj
      exact ⟨a, b, c, .inr ⟨name_ne hg.2, hg.1⟩⟩
    · exact key _ rfl h
  · exact key _ rfl h
theorem right_any {i : Ins} {p : Int} (h : rightB i p = true) (hg : goesB i = false) (q : Int) : rightB i q = true := by
  obtain ⟨op, d, s, t, u, a, k, pl⟩ := i
  have hh := right_hs h
  simp only at hh
  unfold goesB at hg
  simp only [Bool.or_eq_false_iff, Bool.and_eq_false_iff, decide_eq_false_iff_not] at hg
  unfold rightB at *
  simp only [Bool.and_eq_true, List.all_eq_true] at *
  refine ⟨h.1, fun c hc => ?_, h.2.2⟩
  have hi := h.2.1 c hc
  by_cases e : (c.toNat : Int) = 80
  · have hop : op = 21 := by
      rcases op_cases op with rfl | rfl | rfl | rfl | rfl | rfl | rfl | rfl | rfl | rfl | rfl | rfl | rfl | rfl | rfl | rfl | rfl | rfl | rfl | rfl | rfl | hn
      all_goals first
        | rfl
        | (exfalso; omega)
        | exact absurd (hs_none hn).1 hh
        | (exfalso; revert e; simp [hsL] at hc; rcases hc with rfl | rfl | rfl | rfl | rfl <;> decide)
        | (exfalso; revert e; simp [hsL] at hc; rcases hc with rfl | rfl | rfl | rfl <;> decide)
        | (exfalso; revert e; simp [hsL] at hc; rcases hc with rfl | rfl | rfl <;> decide)
        | (exfalso; revert e; simp [hsL] at hc; rcases hc with rfl | rfl <;> decide)
        | (exfalso; revert e; simp [hsL] at hc; subst hc; decide)
    subst hop
    unfold inB lowI endI getI at *
    rw [e] at hi ⊢
    simp at hi hg ⊢
    refine ⟨hi.1, ?_⟩
    split <;> omega
  · unfold inB endI at *
    simp only [if_neg e] at hi ⊢
    exact hi
theorem right_put {i : Ins} {p q r : Int} (h : rightB i p = true) (hg : goesB i = true) (h0 : 0 ≤ r) (h1 : r < q) : rightB { i with pl := r } q = true := by
  obtain ⟨op, d, s, t, u, a, k, pl⟩ := i
  unfold rightB at *
  rcases goes_cases hg with e | e | e | ⟨e, e2⟩ <;> (simp only at e; subst e; simp [hsL, inB, lowI, endI, getI, isZ, clr, setI] at h ⊢)
  · exact ⟨⟨h.1.1, h.1.2.1, h0, h1⟩, h.2⟩
  · exact ⟨⟨h.1.1, h.1.2.1, h0, h1⟩, h.2⟩
  · exact ⟨⟨h0, h1⟩, h.2⟩
  · obtain ⟨⟨q1, q2, q3, q4, q5, q6⟩, q7⟩ := h
    refine ⟨⟨q1, q2, q3, q4, q5, by omega, ?_⟩, q7⟩
    split <;> omega

def RowOk (r : Ins × List UInt8 × Int) : Prop := rightB r.1 1073741824 = true ∧ 0 ≤ r.1.k ∧ r.1.k < 4294967296 ∧ ((r.2.1 = [] ∧ goesB r.1 = false) ∨ (r.2.1 ≠ [] ∧ goesB r.1 = true))
theorem asm1_rows : ∀ (l : List (List UInt8)) (n : Int) (ls : List (List UInt8 × Int)) (rs : List (Ins × List UInt8 × Int)) (ls2 : List (List UInt8 × Int)) (rs2 : List (Ins × List UInt8 × Int)),
    asm1 l n ls rs = .inr (ls2, rs2) → (∀ r ∈ rs, RowOk r) → rs.length ≤ 64 → (∀ r ∈ rs2, RowOk r) ∧ rs2.length ≤ 64
  | [], n, ls, rs, ls2, rs2, h, hr, hl => by
    injection h with h
    injection h with h1 h2
    subst h2
    exact ⟨hr, hl⟩
  | s :: m, n, ls, rs, ls2, rs2, h, hr, hl => by
    unfold asm1 at h
    split at h
    · split at h
      · cases h
      · exact asm1_rows m _ _ _ _ _ h hr hl
    · split at h
      · cases h
      · rename_i i nm hln
        split at h
        · cases h
        · refine asm1_rows m _ _ _ _ _ h (fun r hr2 => ?_) (by simp; omega)
          rcases List.mem_append.1 hr2 with h2 | h2
          · exact hr r h2
          · obtain rfl : r = (i, nm, n) := by simpa using h2
            exact line_right hln
theorem find_lt {ls : List (List UInt8 × Int)} {s : List UInt8} {n : Int} (h : 0 ≤ findL ls s n) : findL ls s n < n := by
  unfold findL at *
  split at h
  · rename_i x hx
    have := List.find?_some hx
    simp only [Bool.and_eq_true, decide_eq_true_eq] at this
    exact this.2
  · omega
theorem asm2_right {ls : List (List UInt8 × Int)} {n : Int} : ∀ (rs : List (Ins × List UInt8 × Int)) (l : List Ins), asm2 ls n rs = .inr l → (∀ r ∈ rs, RowOk r) → l.length = rs.length ∧ ∀ i ∈ l, rightB i n = true ∧ 0 ≤ i.k ∧ i.k < 4294967296
  | [], l, h, _ => by
    injection h with h
    subst h
    simp
  | (i, nm, row) :: m, l, h, hr => by
    have h1 := hr _ List.mem_cons_self
    unfold RowOk at h1
    simp only at h1
    unfold asm2 at h
    split at h
    · rename_i e
      cases h2 : asm2 ls n m with
      | inl x => rw [h2] at h; cases h
      | inr l2 =>
        rw [h2] at h
        injection h with h
        subst h
        obtain ⟨a, b⟩ := asm2_right m l2 h2 fun r hr2 => hr r (List.mem_cons_of_mem _ hr2)
        refine ⟨by simp [a], fun j hj => ?_⟩
        rcases List.mem_cons.1 hj with rfl | hj
        · refine ⟨right_any h1.1 ?_ n, h1.2.1, h1.2.2.1⟩
          rcases h1.2.2.2 with h3 | h3
          · exact h3.2
          · exact absurd e h3.1
        · exact b j hj
    · rename_i e
      split at h
      · cases h
      · rename_i hf
        cases h2 : asm2 ls n m with
        | inl x => rw [h2] at h; cases h
        | inr l2 =>
          rw [h2] at h
          injection h with h
          subst h
          obtain ⟨a, b⟩ := asm2_right m l2 h2 fun r hr2 => hr r (List.mem_cons_of_mem _ hr2)
          refine ⟨by simp [a], fun j hj => ?_⟩
          rcases List.mem_cons.1 hj with rfl | hj
          · refine ⟨?_, h1.2.1, h1.2.2.1⟩
            rcases h1.2.2.2 with h3 | h3
            · exact absurd h3.1 e
            · exact right_put h1.1 h3.2 (by omega) (find_lt (by omega))
          · exact b j hj

/-- What is assembled is a right program. -/
theorem asm_right {text : List UInt8} {c : Prg} {n : Int} (h : asmL text = (c, n, 0)) : prgB c = true ∧ n = 0 ∧ ∀ i ∈ c.l, 0 ≤ i.k ∧ i.k < 4294967296 := by
  have bad1 : ∀ (l : List (List UInt8)) (n : Int) (ls : List (List UInt8 × Int)) (rs : List (Ins × List UInt8 × Int)) (m e : Int), asm1 l n ls rs = .inl (m, e) → e ≠ 0 := by
    intro l
    induction l with
    | nil => intro n ls rs m e h; cases h
    | cons s l ih =>
      intro n ls rs m e h
      unfold asm1 at h
      split at h
      · split at h
        · injection h with h; injection h with _ h; omega
        · exact ih _ _ _ _ _ h
      · split at h
        · injection h with h; injection h with _ h; omega
        · split at h
          · injection h with h; injection h with _ h; omega
          · exact ih _ _ _ _ _ h
  have bad2 : ∀ (ls : List (List UInt8 × Int)) (n : Int) (rs : List (Ins × List UInt8 × Int)) (m e : Int), asm2 ls n rs = .inl (m, e) → e ≠ 0 := by
    intro ls n rs
    induction rs with
    | nil => intro m e h; cases h
    | cons r rs ih =>
      intro m e h
      obtain ⟨i, nm, row⟩ := r
      unfold asm2 at h
      split at h
      · cases h2 : asm2 ls n rs with
        | inl x => rw [h2] at h; injection h with h; subst h; exact ih m e h2
        | inr l2 => rw [h2] at h; cases h
      · split at h
        · injection h with h; injection h with _ h; omega
        · cases h2 : asm2 ls n rs with
          | inl x => rw [h2] at h; injection h with h; subst h; exact ih m e h2
          | inr l2 => rw [h2] at h; cases h
  unfold asmL at h
  split at h
  · rename_i m e h1
    injection h with _ h
    injection h with _ h
    exact absurd h (bad1 _ _ _ _ _ _ h1)
  · rename_i ls rs h1
    obtain ⟨hr, hl⟩ := asm1_rows _ _ _ _ _ _ h1 (by simp) (by simp)
    split at h
    · injection h with _ h; injection h with _ h; omega
    · split at h
      · rename_i m e h2
        injection h with _ h
        injection h with _ h
        exact absurd h (bad2 _ _ _ _ _ h2)
      · rename_i l h2
        split at h
        · injection h with _ h; injection h with _ h; omega
        · rename_i hf
          injection h with hc h
          injection h with hn _
          subst hc
          obtain ⟨a, b⟩ := asm2_right _ _ h2 hr
          have f1 := find_lt (ls := ls) (s := lockW) (n := rs.length) (by omega)
          have f2 := find_lt (ls := ls) (s := unlockW) (n := rs.length) (by omega)
          refine ⟨?_, hn.symm, fun i hi => (b i hi).2⟩
          unfold prgB
          simp only [Bool.and_eq_true, decide_eq_true_eq, List.all_eq_true, a]
          exact ⟨by omega, hl, by omega, by omega, f1, f2, fun i hi => (b i hi).1⟩

-- just as many instructions as may be
theorem asm1_more (rest : List (List UInt8)) : ∀ (toks : List Tok) (n : Int) (ls : List (List UInt8 × Int)) (rs : List (Ins × List UInt8 × Int)), (∀ t ∈ toks, t.Ok) → (ls.map (·.1) ++ namesT toks).Nodup → rs.length + (rowsT toks n).length ≤ 64 →
    asm1 (toks.map Tok.text ++ rest) n ls rs = asm1 rest (n + toks.length) (ls ++ labsT toks rs.length) (rs ++ rowsT toks n)
  | [], n, ls, rs, _, _, _ => by simp [labsT, rowsT]
  | .lab nm :: m, n, ls, rs, hok, hnd, hc => by
    have h1 : nameB nm = true := hok _ List.mem_cons_self
    have hany : (ls.any fun x => x.1 == nm) = false := by
      rw [Bool.eq_false_iff]
      intro h
      obtain ⟨x, hx, he⟩ := List.any_eq_true.1 h
      have he2 : x.1 = nm := by simpa using he
      have := (List.nodup_append.1 hnd).2.2 x.1 (List.mem_map.2 ⟨x, hx, rfl⟩) nm (by simp [namesT])
      exact this he2
    have ih := asm1_more rest m (n + 1) (ls ++ [(nm, (rs.length : Int))]) rs (fun t ht => hok t (List.mem_cons_of_mem _ ht)) (by simpa [namesT] using hnd) (by simpa [rowsT] using hc)
    simp only [List.map_cons, List.cons_append, Tok.text, asm1, lb_yes h1, if_pos, List.dropLast_concat, hany]
    rw [if_neg (by decide), ih]
    simp only [labsT, rowsT, List.append_assoc, List.cons_append, List.nil_append, List.length_cons]
    congr 1
    simp
    omega
  | .ins i nm s :: m, n, ls, rs, hok, hnd, hc => by
    obtain ⟨h1, h2⟩ : lbB s = false ∧ lineL s = some (i, nm) := hok _ List.mem_cons_self
    have hc2 : rs.length + ((rowsT m (n + 1)).length + 1) ≤ 64 := by simpa [rowsT] using hc
    have ih := asm1_more rest m (n + 1) ls (rs ++ [(i, nm, n)]) (fun t ht => hok t (List.mem_cons_of_mem _ ht)) (by simpa [namesT] using hnd) (by simp; omega)
    simp only [List.map_cons, List.cons_append, Tok.text, asm1, h1, h2]
    rw [if_neg (by decide), if_neg (by omega), ih]
    simp only [labsT, rowsT, List.append_assoc, List.cons_append, List.nil_append, List.length_cons, List.length_append, List.length_nil]
    congr 1
    · simp
      omega

def done1 : Ins := ⟨13, 0, 0, 0, 0, 0, 1, 0⟩
def doneW : List UInt8 := [100, 111, 110, 101, 32, 49]
theorem done_text : textL done1 = doneW := by
  have h := join_13 1
  rw [Lib.decDigits, dif_pos (by decide)] at h
  exact h
def bigT (k : Nat) : List Tok := [.lab lockW, .lab unlockW] ++ List.replicate k (.ins done1 [] doneW)
def bigL (k : Nat) : List (List UInt8) := [lockW ++ [58], unlockW ++ [58]] ++ List.replicate k doneW
theorem big_text (k : Nat) : (bigT k).map Tok.text = bigL k := by
  simp [bigT, bigL, Tok.text]
theorem big_ok (k : Nat) : ∀ t ∈ bigT k, t.Ok ∧ Nl t.text := by
  have hd : (Tok.ins done1 [] doneW).Ok ∧ Nl doneW := by
    have h := line_stay done1 (p := 1073741824) (by decide) (by decide) (by decide) (by decide) (by decide)
    rw [done_text] at h
    exact ⟨⟨lb_no (a := [100, 111, 110, 101]) (b := [49]) rfl (by simp), h⟩, by unfold Nl; decide⟩
  intro t ht
  rcases List.mem_append.1 ht with h | h
  · rcases List.mem_cons.1 h with rfl | h
    · exact ⟨(by decide : nameB lockW = true), by unfold Nl Tok.text; decide⟩
    · obtain rfl : t = .lab unlockW := by simpa using h
      exact ⟨(by decide : nameB unlockW = true), by unfold Nl Tok.text; decide⟩
  · obtain rfl : t = .ins done1 [] doneW := (List.mem_replicate.1 h).2
    exact hd
theorem rows_rep : ∀ (k : Nat) (n : Int), (rowsT (List.replicate k (Tok.ins done1 [] doneW)) n).map (fun r => (r.1, r.2.1)) = List.replicate k (done1, [])
  | 0, _ => rfl
  | k + 1, n => by simp only [List.replicate_succ, rowsT, List.map_cons, rows_rep k (n + 1)]
theorem names_rep : ∀ (k : Nat), namesT (List.replicate k (Tok.ins done1 [] doneW)) = []
  | 0 => rfl
  | k + 1 => by simp only [List.replicate_succ, namesT, names_rep k]
theorem big_names (k : Nat) : namesT (bigT k) = [lockW, unlockW] := by
  unfold bigT
  rw [names_app, names_rep]
  rfl
theorem big_rows (k : Nat) (n : Int) : (rowsT (bigT k) n).map (fun r => (r.1, r.2.1)) = List.replicate k (done1, []) := by
  unfold bigT
  simp only [List.cons_append, List.nil_append, rowsT]
  exact rows_rep k _
theorem big_fits (k : Nat) (h1 : 1 ≤ k) (h2 : k ≤ 64) : asmL ((bigL k).flatMap fun s => s ++ [10]) = (⟨List.replicate k done1, 0, 0⟩, 0, 0) := by
  have hc : prgB ⟨List.replicate k done1, 0, 0⟩ = true := by
    unfold prgB
    simp only [Bool.and_eq_true, decide_eq_true_eq, List.all_eq_true, List.length_replicate]
    refine ⟨h1, h2, by omega, by omega, by omega, by omega, fun i hi => ?_⟩
    rw [(List.mem_replicate.1 hi).2]
    exact right_any (p := 64) (by decide) (by decide) _
  rw [← big_text]
  refine asm_prog _ hc (bigT k) (fun t ht => (big_ok k t ht).1) (by rw [big_names]; decide) (fun t ht => (big_ok k t ht).2) ?_ ?_
  · rw [big_rows]
    simp only [List.map_replicate]
    rfl
  · intro j x j0 j1 hx
    have hw : ∀ j, wantB ⟨List.replicate k done1, 0, 0⟩ j = false := fun j => by
      unfold wantB
      rw [Bool.eq_false_iff]
      intro h
      obtain ⟨y, hy, he⟩ := List.any_eq_true.1 h
      rw [(List.mem_replicate.1 hy).2] at he
      revert he
      simp [goesB, done1]
    unfold labsAt at hx
    rw [hw] at hx
    by_cases e : j = 0
    · subst e
      unfold bigT
      simp at hx
      rcases hx with rfl | rfl <;> simp [labsT]
    · simp [e] at hx
theorem big_not (k : Nat) (h : 64 < k) : asmL ((bigL k).flatMap fun s => s ++ [10]) = (Prg.zero, 67, 9) := by
  have hp := pieces_lines (bigL k) (by
    rw [← big_text]
    intro s hs
    obtain ⟨t, ht, rfl⟩ := List.mem_map.1 hs
    exact (big_ok k t ht).2)
  have hb : bigL k = (bigT 64).map Tok.text ++ doneW :: List.replicate (k - 65) doneW := by
    rw [big_text]
    unfold bigL
    rw [List.append_assoc]
    congr 1
    rw [← List.replicate_succ, List.replicate_append_replicate]
    congr 1
    omega
  have hl : (rowsT (bigT 64) 1).length = 64 := by
    have := congrArg List.length (big_rows 64 1)
    simpa using this
  have hq := big_ok 65 (.ins done1 [] doneW) (by unfold bigT; simp)
  obtain ⟨⟨q1, q2⟩, -⟩ := hq
  have h1 := asm1_more (doneW :: List.replicate (k - 65) doneW) (bigT 64) 1 [] [] (fun t ht => (big_ok 64 t ht).1) (by rw [big_names]; decide) (by simp [hl])
  unfold asmL
  rw [hp, List.dropLast_concat, hb, h1]
  simp only [asm1, q1, q2, List.nil_append, hl]
  rw [if_neg (by decide), if_pos (Nat.le_refl _)]
  rfl
end Go.Proofs.YteohnkilchkhkaaGreatDoor

/- What is assembled, line by line; what is printed, instruction by instruction: in the steps of a loop. No walk stands here. -/
namespace Go.Proofs.YteohnkilchkhkaaGreatDoor
set_option linter.unusedVariables false

/-- The end: places of names, lock and unlock. -/
def finishL (ls : List (List UInt8 × Int)) (rs : List (Ins × List UInt8 × Int)) : Prg × Int × Int :=
  match asm2 ls rs.length rs with
  | .inl (n, e) => (Prg.zero, n, e)
  | .inr l => if findL ls lockW rs.length < 0 ∨ findL ls unlockW rs.length < 0 then (Prg.zero, 0, 10)
    else (⟨l, findL ls lockW rs.length, findL ls unlockW rs.length⟩, 0, 0)
/-- What is assembled of the rest t of a text, from line n on. -/
def asmGo (t : List UInt8) (n : Int) (ls : List (List UInt8 × Int)) (rs : List (Ins × List UInt8 × Int)) : Prg × Int × Int :=
  match asm1 (piecesL t).dropLast n ls rs with
  | .inl (m, e) => (Prg.zero, m, e)
  | .inr (ls, rs) => if (piecesL t).getLastD [] ≠ [] then (Prg.zero, n + (piecesL t).length - 1, 8) else finishL ls rs
theorem asmGo_all (text : List UInt8) : asmL text = asmGo text 1 [] [] := by
  have e : (1 : Int) + ((piecesL text).length : Int) - 1 = ((piecesL text).length : Int) := by omega
  unfold asmL asmGo finishL
  rw [e]
theorem dropLast_cons {α : Type} (x : α) (l : List α) (h : l ≠ []) : (x :: l).dropLast = x :: l.dropLast := by
  cases l with
  | nil => exact absurd rfl h
  | cons a b => rfl
theorem getLastD_cons' {α : Type} (x d : α) (l : List α) (h : l ≠ []) : (x :: l).getLastD d = l.getLastD d := by
  cases l with
  | nil => exact absurd rfl h
  | cons a b => rfl
/-- One line. -/
theorem asmGo_line (s r : List UInt8) (h : Nl s) (n : Int) (ls : List (List UInt8 × Int)) (rs : List (Ins × List UInt8 × Int)) :
    asmGo (s ++ 10 :: r) n ls rs =
      if lbB s = true then (if (ls.any fun x => x.1 == s.dropLast) = true then (Prg.zero, n, 2) else asmGo r (n + 1) (ls ++ [(s.dropLast, (rs.length : Int))]) rs)
      else match lineL s with
        | none => (Prg.zero, n, 8)
        | some (i, nm) => if 64 ≤ rs.length then (Prg.zero, n, 9) else asmGo r (n + 1) ls (rs ++ [(i, nm, n)]) := by
  have hp := pieces_more s r h
  have hne := piecesL_ne r
  have e : n + ((piecesL (s ++ 10 :: r)).length : Int) - 1 = n + 1 + ((piecesL r).length : Int) - 1 := by
    rw [hp]
    simp
    omega
  unfold asmGo
  rw [e, hp, dropLast_cons _ _ hne, getLastD_cons' _ _ _ hne]
  simp only [asm1]
  by_cases h1 : lbB s = true
  · simp only [h1, if_true]
    by_cases h2 : (ls.any fun x => x.1 == s.dropLast) = true
    · simp only [h2, if_true]
    · simp only [h2]
      rfl
  · simp only [h1]
    cases hl : lineL s with
    | none => simp
    | some q =>
      obtain ⟨i, nm⟩ := q
      simp only
      by_cases h3 : 64 ≤ rs.length
      · simp [h3]
      · simp [h3]
/-- The rest without an end of line. -/
theorem asmGo_end (s : List UInt8) (h : Nl s) (n : Int) (ls : List (List UInt8 × Int)) (rs : List (Ins × List UInt8 × Int)) : asmGo s n ls rs = if s ≠ [] then (Prg.zero, n, 8) else finishL ls rs := by
  have hp : ∀ t : List UInt8, Nl t → piecesL t = [t] := by
    intro t
    induction t with
    | nil => intro _; rfl
    | cons c t ih =>
      intro ht
      rw [piecesL, if_neg (ht c List.mem_cons_self), ih fun d hd => ht d (List.mem_cons_of_mem _ hd)]
      rfl
  unfold asmGo
  rw [hp s h]
  simp [asm1]

theorem linesFrom_snoc (c : Prg) (i : Ins) : ∀ (l : List Ins) (k : Int), linesFrom c (l ++ [i]) k = linesFrom c l k ++ ((labsAt c (k + l.length)).map (fun s => s ++ [58]) ++ [insLine c i])
  | [], k => by simp [linesFrom]
  | j :: m, k => by
    have ih := linesFrom_snoc c i m (k + 1)
    have e : k + 1 + (m.length : Int) = k + ((j :: m).length : Int) := by simp; omega
    rw [e] at ih
    simp [linesFrom, ih]
theorem itoa_bf {n : Int} (h : 0 ≤ n) : Bf (Lib.itoa n) := by
  rw [itoa_nn h]
  exact dec_bf _
/-- The text of an instruction that goes to a place, up to its last word. -/
theorem headW_text (i : Ins) (hg : goesB i = true) (h0 : 0 ≤ i.pl) : headW (textL i) = headI i := by
  obtain ⟨a, ha⟩ := headI_end i
  rw [text_goes i hg h0, ha, show a ++ [32] ++ Lib.itoa i.pl = a ++ 32 :: Lib.itoa i.pl by simp, headW_cat a _ (itoa_bf h0)]

/-- The second turn, row by row. -/
theorem asm2_skip (ls : List (List UInt8 × Int)) (n : Int) (i : Ins) (row : Int) (more : List (Ins × List UInt8 × Int)) :
    asm2 ls n ((i, [], row) :: more) = match asm2 ls n more with | .inl e => .inl e | .inr l => .inr (i :: l) := by
  simp only [asm2]
  rfl
theorem asm2_name (ls : List (List UInt8 × Int)) (n : Int) (i : Ins) (nm : List UInt8) (hn : nm ≠ []) (row : Int) (more : List (Ins × List UInt8 × Int)) :
    asm2 ls n ((i, nm, row) :: more) = if findL ls nm n < 0 then .inl (row, 10) else match asm2 ls n more with | .inl e => .inl e | .inr l => .inr ({ i with pl := findL ls nm n } :: l) := by
  simp only [asm2]
  rw [if_neg hn]
end Go.Proofs.YteohnkilchkhkaaGreatDoor
