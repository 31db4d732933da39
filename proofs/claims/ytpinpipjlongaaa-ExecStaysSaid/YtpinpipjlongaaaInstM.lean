/- Instructions as plain numbers and lists of bytes: what each Op has, when an instruction is right, its text, what is drafted of words. No walk stands here. -/
import Derived.Lib.ItoaNum
import Derived.Lib.AtoiAll
import Derived.Lib.Strings
namespace Go.Proofs.Ytpinpipjlongaaa

/-- An instruction: its eight numbers. -/
structure Ins where
  op : Int
  d : Int
  s : Int
  t : Int
  u : Int
  a : Int
  k : Int
  pl : Int

def Ins.zero : Ins := ⟨0, 0, 0, 0, 0, 0, 0, 0⟩

/-- Each number fits its field. -/
structure Ins.Wf (i : Ins) : Prop where
  op0 : -9223372036854775808 ≤ i.op
  op1 : i.op ≤ 9223372036854775807
  d0 : -9223372036854775808 ≤ i.d
  d1 : i.d ≤ 9223372036854775807
  s0 : -9223372036854775808 ≤ i.s
  s1 : i.s ≤ 9223372036854775807
  t0 : -9223372036854775808 ≤ i.t
  t1 : i.t ≤ 9223372036854775807
  u0 : -9223372036854775808 ≤ i.u
  u1 : i.u ≤ 9223372036854775807
  a0 : -9223372036854775808 ≤ i.a
  a1 : i.a ≤ 9223372036854775807
  k0 : 0 ≤ i.k
  k1 : i.k < 4294967296
  to0 : -9223372036854775808 ≤ i.pl
  to1 : i.pl ≤ 9223372036854775807

/-- An Op's name. -/
def nmL (op : Int) : List UInt8 :=
  if op = 1 then [99, 111, 110, 115, 116]
  else if op = 2 then [109, 111, 118, 101]
  else if op = 3 then [97, 100, 100, 107]
  else if op = 4 then [97, 110, 100, 107]
  else if op = 5 then [115, 104, 108]
  else if op = 6 then [115, 104, 114]
  else if op = 7 then [111, 114]
  else if op = 8 then [98, 101, 113]
  else if op = 9 then [98, 110, 101]
  else if op = 10 then [106, 117, 109, 112]
  else if op = 11 then [115, 101, 108, 102]
  else if op = 12 then [109, 97, 114, 107]
  else if op = 13 then [100, 111, 110, 101]
  else if op = 16 then [108, 111, 97, 100]
  else if op = 17 then [115, 116, 111, 114, 101]
  else if op = 18 then [115, 119, 97, 112]
  else if op = 19 then [99, 97, 115]
  else if op = 20 then [102, 97, 100, 100]
  else if op = 21 then [97, 119, 97, 105, 116]
  else if op = 22 then [116, 97, 107, 101]
  else if op = 23 then [102, 114, 101, 101]
  else []

/-- What it has, a letter each: D 68, S 83, T 84, U 85, A 65, K 75, P 80. -/
def hsL (op : Int) : List UInt8 :=
  if op = 1 then [68, 75]
  else if op = 2 then [68, 83]
  else if op = 3 then [68, 83, 75]
  else if op = 4 then [68, 83, 75]
  else if op = 5 then [68, 83, 75]
  else if op = 6 then [68, 83, 75]
  else if op = 7 then [68, 83, 84]
  else if op = 8 then [83, 84, 80]
  else if op = 9 then [83, 84, 80]
  else if op = 10 then [80]
  else if op = 11 then [68]
  else if op = 12 then [75]
  else if op = 13 then [75]
  else if op = 16 then [68, 65, 83]
  else if op = 17 then [65, 83, 84]
  else if op = 18 then [68, 65, 83, 84]
  else if op = 19 then [68, 65, 83, 84, 85]
  else if op = 20 then [68, 65, 83, 75]
  else if op = 21 then [68, 65, 83, 75, 84, 80]
  else if op = 22 then [68]
  else if op = 23 then [83]
  else []

/-- The ops that there are. -/
theorem op_cases (op : Int) : op = 1 ∨ op = 2 ∨ op = 3 ∨ op = 4 ∨ op = 5 ∨ op = 6 ∨ op = 7 ∨ op = 8 ∨ op = 9 ∨ op = 10 ∨ op = 11 ∨ op = 12 ∨ op = 13 ∨ op = 16 ∨ op = 17 ∨ op = 18 ∨ op = 19 ∨ op = 20 ∨ op = 21 ∨ op = 22 ∨ op = 23 ∨
    (op ≠ 1 ∧ op ≠ 2 ∧ op ≠ 3 ∧ op ≠ 4 ∧ op ≠ 5 ∧ op ≠ 6 ∧ op ≠ 7 ∧ op ≠ 8 ∧ op ≠ 9 ∧ op ≠ 10 ∧ op ≠ 11 ∧ op ≠ 12 ∧ op ≠ 13 ∧ op ≠ 16 ∧ op ≠ 17 ∧ op ≠ 18 ∧ op ≠ 19 ∧ op ≠ 20 ∧ op ≠ 21 ∧ op ≠ 22 ∧ op ≠ 23) := by omega

/-- What stands for a letter. -/
def getI (i : Ins) (c : Int) : Int :=
  if c = 68 then i.d else if c = 83 then i.s else if c = 84 then i.t else if c = 85 then i.u else if c = 65 then i.a else if c = 75 then i.k else i.pl

def setI (i : Ins) (c v : Int) : Ins :=
  if c = 68 then { i with d := v } else if c = 83 then { i with s := v } else if c = 84 then { i with t := v } else if c = 85 then { i with u := v }
  else if c = 65 then { i with a := v } else if c = 75 then { i with k := v % 4294967296 } else if c = 80 then { i with pl := v } else i

def lowI (op c : Int) : Int :=
  if c = 65 then 0 else if c = 75 then (if op = 12 then 1 else 0) else if c = 80 then (if op = 21 then -1 else 0) else 0

def endI (op c p : Int) : Int :=
  if c = 65 then 8
  else if c = 75 then (if op = 5 then 32 else if op = 6 then 32 else if op = 12 then 5 else if op = 13 then 4 else if op = 21 then 2 else 4294967296)
  else if c = 80 then (if op = 21 then (if p < 0 then 0 else p) else p) else 8

/-- It lies within its bounds. -/
def inB (i : Ins) (p : Int) (c : Int) : Bool := decide (lowI i.op c ≤ getI i c) && decide (getI i c < endI i.op c p)

/-- What is left when the letters' fields are taken out. -/
def clr (i : Ins) (l : List UInt8) : Ins := l.foldl (fun x c => setI x c.toNat 0) { i with op := 0 }

def isZ (i : Ins) : Bool := decide (i.op = 0 ∧ i.d = 0 ∧ i.s = 0 ∧ i.t = 0 ∧ i.u = 0 ∧ i.a = 0 ∧ i.k = 0 ∧ i.pl = 0)

/-- May it be, with as many places? -/
def rightB (i : Ins) (p : Int) : Bool := !(hsL i.op).isEmpty && ((hsL i.op).all (fun c => inB i p c.toNat) && isZ (clr i (hsL i.op)))

/-- What a text has for a letter. -/
def partL (i : Ins) (c : Int) : List UInt8 :=
  if c = 65 then 32 :: Lib.itoa i.a
  else if c = 75 then (if i.op = 21 then (if i.k = 0 then [32, 101, 113] else [32, 110, 101]) else 32 :: Lib.itoa i.k)
  else if c = 80 then (if i.op = 21 then (if i.pl = -1 then [] else [32, 101, 108, 115, 101, 32] ++ Lib.itoa i.pl) else 32 :: Lib.itoa i.pl)
  else [32, 114] ++ Lib.itoa (getI i c)

def partsL (i : Ins) (l : List UInt8) : List UInt8 := l.flatMap fun c => partL i c.toNat

/-- Its text. -/
def textL (i : Ins) : List UInt8 := nmL i.op ++ partsL i (hsL i.op)

/-- What a word stands for. -/
def valL (w : List UInt8) : Int :=
  if w = [101, 113] then 0 else if w = [110, 101] then 1
  else match Lib.atoiAll (Lib.trimPrefix w [114]) with
    | .ok v => v
    | _ => -1

def valAt (ws : List (List UInt8)) (n : Nat) : Int := if n < ws.length then valL (ws.getD n []) else -1

/-- The first Op from k on, of n more, that has this name; 0: none. -/
def opFrom (w : List UInt8) : Nat → Int → Int
  | 0, _ => 0
  | n + 1, k => if (hsL k).isEmpty = false ∧ nmL k = w then k else opFrom w n (k + 1)

def opN (w : List UInt8) : Int := opFrom w 23 1

/-- The instruction that words are drafted as, their letters from n on. -/
def fillI (ws : List (List UInt8)) : List UInt8 → Nat → Ins → Ins
  | [], _, i => i
  | c :: l, n, i => fillI ws l (n + 1) (setI i c.toNat (valAt ws (n + 1)))

def lastI (ws : List (List UInt8)) (i : Ins) : Ins := if i.op = 21 then { i with pl := valAt ws 7 } else i

def draftI (ws : List (List UInt8)) : Ins :=
  lastI ws (fillI ws (hsL (opN (ws.getD 0 []))) 0 { Ins.zero with op := opN (ws.getD 0 []) })

/-- A letter. -/
def Ltr (c : Int) : Prop := c = 68 ∨ c = 83 ∨ c = 84 ∨ c = 85 ∨ c = 65 ∨ c = 75 ∨ c = 80

def ltrB (c : UInt8) : Bool := c == 68 || c == 83 || c == 84 || c == 85 || c == 65 || c == 75 || c == 80
theorem hs_none {op : Int} (h : op ≠ 1 ∧ op ≠ 2 ∧ op ≠ 3 ∧ op ≠ 4 ∧ op ≠ 5 ∧ op ≠ 6 ∧ op ≠ 7 ∧ op ≠ 8 ∧ op ≠ 9 ∧ op ≠ 10 ∧ op ≠ 11 ∧ op ≠ 12 ∧ op ≠ 13 ∧ op ≠ 16 ∧ op ≠ 17 ∧ op ≠ 18 ∧ op ≠ 19 ∧ op ≠ 20 ∧ op ≠ 21 ∧ op ≠ 22 ∧ op ≠ 23) : hsL op = [] ∧ nmL op = [] := by
  unfold hsL nmL; simp [h]
theorem hs_all (op : Int) : (hsL op).all ltrB = true := by
  rcases op_cases op with rfl | rfl | rfl | rfl | rfl | rfl | rfl | rfl | rfl | rfl | rfl | rfl | rfl | rfl | rfl | rfl | rfl | rfl | rfl | rfl | rfl | hn
  all_goals first | rfl | (rw [(hs_none hn).1]; rfl)
theorem ltr_of {c : UInt8} (h : ltrB c = true) : Ltr c.toNat := by
  unfold ltrB at h
  simp at h
  unfold Ltr
  rcases h with ((((((rfl | rfl) | rfl) | rfl) | rfl) | rfl) | rfl) <;> decide
theorem hs_ltr (op : Int) : ∀ c ∈ hsL op, Ltr c.toNat := fun c hc => ltr_of (List.all_eq_true.1 (hs_all op) c hc)
theorem hs_len (op : Int) : (hsL op).length ≤ 6 := by
  rcases op_cases op with rfl | rfl | rfl | rfl | rfl | rfl | rfl | rfl | rfl | rfl | rfl | rfl | rfl | rfl | rfl | rfl | rfl | rfl | rfl | rfl | rfl | hn
  all_goals first | decide | (rw [(hs_none hn).1]; decide)

/-- Two instructions are one. -/
def eqI (i j : Ins) : Bool := i.op == j.op && (i.d == j.d && (i.s == j.s && (i.t == j.t && (i.u == j.u && (i.a == j.a && (i.k == j.k && i.pl == j.pl))))))
theorem eqI_iff (i j : Ins) : eqI i j = true ↔ i = j := by
  obtain ⟨a1, a2, a3, a4, a5, a6, a7, a8⟩ := i
  obtain ⟨b1, b2, b3, b4, b5, b6, b7, b8⟩ := j
  simp [eqI]

theorem isZ_eq (i : Ins) : isZ i = eqI i Ins.zero := by
  rw [Bool.eq_iff_iff]
  simp [isZ, eqI, Ins.zero]

end Go.Proofs.Ytpinpipjlongaaa
