/- Mem, InstM, Row, Grow, InstN, InstA, Cell. -/
import Derived.Test.YtpinpipjlongaaaGreatRows
import Derived.Handy
import Derived.IntWalk
import Derived.Below
import Derived.OneCell
import Derived.OwnWalk
import Derived.Lib.Hide
import Derived.Laws.OwnMore
import Derived.Laws.Rows
import Derived.Laws.LoneSync
import Derived.Deep.Draws
import Derived.Lib.ItoaNum
import Derived.Lib.AtoiAll
import Derived.Lib.Strings
import Derived.Maps.AppendAt
import Derived.Deep.RegionLawGrows
import Derived.Maps.OwnSet
import Derived.RangeFuncNested
import Derived.RangeFuncBound
import Derived.RangeFuncCalls
import Derived.RangeFuncLeaves
import Derived.Shelf.Abstract
import Derived.Shelf.RegionOpen
import Derived.WalkKit
import Derived.OwnWalkIn
import Derived.TacticsInMore
import Derived.LoopNIn
import Derived.LoopIn
import Derived.Orders
import Derived.StillTail
import Derived.BigQuiet
import Derived.Test.YtpinpipjlongaaaGreatProg
import Derived.ProofKit
import Derived.WalkLawsBesides
import Derived.Laws.Pointers
/- Blocks of memory known whole, and what becomes of them when a cell is stored, a block is made, an order is drawn: over any program. -/
namespace Go.Proofs.YtpinpipjlongaaaGreat
open Go.ChangeShapes Go.WideShapes Go.ChangeAt Go.RowKit

theorem ret_int {k : IntKind} {a b : Int} (h : a = b) : Ending.returned (.int k a) = .returned (.int k b) := by rw [h]
theorem ret_bool {a b : Bool} (h : a = b) : Ending.returned (.bool a) = .returned (.bool b) := by rw [h]
theorem u32_bounds {n : Int} (h : (Lit.int .u32 n).wf = true) : 0 ≤ n ∧ n < 4294967296 := by
  simp [Lit.wf, IntKind.min, IntKind.max, IntKind.bits, IntKind.signed] at h; omega

/-- Block g of w is the cells cs, of element type t, none of them frozen. -/
def Bk (w : World) (g : Nat) (t : TypeId) (cs : Array Value) : Prop := w.heap[g]? = some (.cells cs t (0, 0))

section
variable {w w' : World} {g : Nat} {t : TypeId} {cs : Array Value}
theorem Bk.lt (h : Bk w g t cs) : g < w.heap.size := (Array.getElem?_eq_some_iff.1 h).1
theorem Bk.cell (h : Bk w g t cs) (i : Nat) : w.cell? ⟨g, i, none⟩ = cs[i]? := cell_of_row w g i cs t (0, 0) h
theorem Bk.free (h : Bk w g t cs) (i : Nat) : w.frozen? ⟨g, i, none⟩ = false := by unfold Bk at h; simp [World.frozen?, h]
theorem Bk.made (w : World) (t : TypeId) (cs : Array Value) : Bk (w.alloc (.cells cs t)) w.heap.size t cs := heap_alloc_new w _
theorem Bk.alloc (h : Bk w g t cs) (o : Obj) : Bk (w.alloc o) g t cs := (Below.heap_alloc w o g h.lt).trans h
theorem Bk.put (h : Bk w g t cs) (i : Nat) (u : Value) : Bk (w.setCell ⟨g, i, none⟩ u) g t (cs.setIfInBounds i u) := by
  unfold Bk at h ⊢; simp [World.setCell, Array.getElem?_modify, h]
theorem Bk.off (h : Bk w g t cs) {p : Addr} (hp : g ≠ p.block) (u : Value) : Bk (w.setCell p u) g t cs := (Below.heap_setCell w p u g hp).trans h
theorem Bk.grown {row : Option Nat} (h : Bk w g t cs) (hg : w.grownBy w' row) (hne : some g ≠ row) : Bk w' g t cs := (hg.block g h.lt hne).trans h
theorem Bk.drewN (h : Bk w g t cs) (n : Nat) : Bk (w.drewN n) g t cs := h
theorem Bk.unlike {g' : Nat} {t' : TypeId} {cs' : Array Value} (h : Bk w g t cs) (h' : Bk w g' t' cs') (hne : t ≠ t') : g ≠ g' := by
  intro e; subst e; unfold Bk at h h'; rw [h] at h'; injection h' with h'; injection h' with _ ht; exact hne ht
end

/-- Nothing but block g, and what is new, has changed. -/
abbrev Only (a w : World) (g : Nat) : Prop := a.grownBy w (some g)
theorem only_put (w : World) (g i : Nat) (u : Value) : Only w (w.setCell ⟨g, i, none⟩ u) g :=
  ⟨rfl, rfl, rfl, by simp [World.setCell], fun k _ hne => Below.heap_setCell w _ u k (fun e => hne (by rw [e]))⟩
theorem grown_made (w : World) (o : Obj) (r : Option Nat) : w.grownBy (w.alloc o) r := World.grownBy_alloc w o r
theorem grown_draws {a w : World} {r : Option Nat} (h : a.grownBy w r) (n : Nat) : a.grownBy (w.drewN n) r := ⟨h.os, h.tape, h.output, h.size, h.block⟩
theorem grown_refl (w : World) (r : Option Nat) : w.grownBy w r := ⟨rfl, rfl, rfl, Nat.le_refl _, fun _ _ _ => rfl⟩
theorem grown_then {a b c : World} {r s : Option Nat} (h : a.grownBy b r) (k : b.grownBy c s) (hs : s = r ∨ ∀ x, s = some x → a.heap.size ≤ x) : a.grownBy c r :=
  ⟨k.os.trans h.os, k.tape.trans h.tape, k.output.trans h.output, Nat.le_trans h.size k.size, fun i hi hne =>
    (k.block i (Nat.lt_of_lt_of_le hi h.size) (by rcases hs with e | e
                                                  · rw [e]; exact hne
                                                  · intro e'; have := e i e'.symm; omega)).trans (h.block i hi hne)⟩
theorem grown_any {a b : World} {r : Option Nat} (h : a.grownBy b none) : a.grownBy b r := ⟨h.os, h.tape, h.output, h.size, fun i hi _ => h.block i hi (by simp)⟩
theorem below_of_grown {a b : World} (h : a.grownBy b none) : Below a.heap.size a b := ⟨h.os, h.tape, h.output, h.size, fun i hi => h.block i hi (by simp)⟩
theorem grown_of_below {a b : World} (h : Below a.heap.size a b) : a.grownBy b none := ⟨h.os, h.tape, h.output, h.size, fun i hi _ => h.block i hi⟩

/-- A list's element; 0 where there is none. A plain definition, so that a walk leaves it alone. -/
def nth (xs : List Int) (i : Nat) : Int := xs.getD i 0
theorem nth_lt {xs : List Int} {i : Nat} (h : i < xs.length) : nth xs i = xs[i] := by simp [nth, h]
theorem nth_get {xs : List Int} {i : Nat} (h : i < xs.length) : xs[i]? = some (nth xs i) := by rw [nth_lt h]; exact List.getElem?_eq_getElem h
theorem nth_set {xs : List Int} {i j : Nat} {v : Int} (h : i < xs.length) : nth (xs.set i v) j = if i = j then v else nth xs j := by
  unfold nth; simp only [List.getD_eq_getElem?_getD, List.getElem?_set]
  by_cases e : i = j
  · subst e; simp [h]
  · simp [e]
/-- Words of 32 bits, as cells. -/
def words (xs : List Int) : Array Value := (xs.map (Value.int .u32)).toArray
def U32s (xs : List Int) : Prop := ∀ x ∈ xs, 0 ≤ x ∧ x < 4294967296
theorem words_at (xs : List Int) (i : Nat) (h : i < xs.length) : (words xs)[i]? = some (.int .u32 (nth xs i)) := by simp [words, h, nth]
theorem words_set (xs : List Int) (i : Nat) (v : Int) : (words xs).setIfInBounds i (.int .u32 v) = words (xs.set i v) := by
  unfold words; rw [List.setIfInBounds_toArray, List.map_set]
theorem U32s.at_ {xs : List Int} (h : U32s xs) (i : Nat) : 0 ≤ nth xs i ∧ nth xs i < 4294967296 := by
  unfold nth
  by_cases hi : i < xs.length
  · simp only [List.getD_eq_getElem?_getD, List.getElem?_eq_getElem hi, Option.getD_some]; exact h _ (List.getElem_mem hi)
  · simp [List.getD_eq_getElem?_getD, List.getElem?_eq_none (Nat.le_of_not_lt hi)]
theorem U32s.set {xs : List Int} (h : U32s xs) (i : Nat) (v : Int) (hv : 0 ≤ v ∧ v < 4294967296) : U32s (xs.set i v) := by
  intro x hx
  rcases List.mem_or_eq_of_mem_set hx with hx | rfl
  · exact h x hx
  · exact hv
theorem U32s.zeros (n : Nat) : U32s (List.replicate n 0) := by
  intro x hx; rw [List.eq_of_mem_replicate hx]; omega
theorem made_words (n : Nat) : madeCells #[.int .u32 0] n = words (List.replicate n 0) := by
  apply Array.ext
  · simp [madeCells, words]
  · intro i h1 h2; simp [madeCells, words, Nat.mod_one]

/-- A slice of words that came in: where there is one, they lie in memory that was there. -/
def Given (k : IntKind) (w : World) (a : Option Addr) (xs : List Int) : Prop :=
  0 < xs.length → ∃ b off, a = some ⟨b, off, none⟩ ∧ b < w.heap.size ∧ ∀ i, i < xs.length → w.cell? ⟨b, off + i, none⟩ = some (.int k (nth xs i))
theorem Given.at_ {k : IntKind} {w : World} {a : Option Addr} {xs : List Int} (h : Given k w a xs) {i : Nat} (hi : i < xs.length) {wr : World} (hb : Below w.heap.size w wr) :
    ∃ b off, a = some ⟨b, off, none⟩ ∧ wr.cell? ⟨b, off + i, none⟩ = some (.int k (nth xs i)) := by
  obtain ⟨b, off, e, hlt, hc⟩ := h (by omega)
  exact ⟨b, off, e, (hb.cell (p := ⟨b, off + i, none⟩) hlt).trans (hc i hi)⟩
theorem given_of {k : IntKind} {w : World} {x : Addr} {len : Nat} {zs : List Int} (hl : len ≤ zs.length) (hc : ∀ i, i < zs.length → w.cell? (x.add i) = some (.int k (zs.getD i 0))) :
    Given k w (some x) (zs.take len) := by
  intro h0
  simp only [List.length_take] at h0
  obtain ⟨b, off, sp⟩ := x
  have hadd : ∀ i, 0 < i → (⟨b, off, sp⟩ : Addr).add i = ⟨b, off + i, none⟩ := by
    intro i hi; unfold Addr.add; rw [if_neg (by omega)]
  have hc0 := hc 0 (by omega)
  have e0 : (⟨b, off, sp⟩ : Addr).add 0 = ⟨b, off, sp⟩ := by unfold Addr.add; rw [if_pos rfl]
  rw [e0] at hc0
  obtain ⟨_, _, _, _, hsp⟩ := World.shape?_of_cell? hc0
  simp only at hsp
  subst hsp
  refine ⟨b, off, rfl, World.block_lt_of_cell? w _ hc0, fun i hi => ?_⟩
  simp only [List.length_take] at hi
  have hn : nth (zs.take len) i = zs.getD i 0 := by
    unfold nth; simp only [List.getD_eq_getElem?_getD, List.getElem?_take]; rw [if_pos (by omega)]
  rw [hn]
  by_cases hi0 : i = 0
  · subst hi0; exact hc0
  · rw [← hadd i (by omega)]; exact hc i (by omega)
theorem given_nil (k : IntKind) (w : World) (a : Option Addr) : Given k w a [] := fun h => absurd h (by simp)
theorem u32info : (Tryz.prog.info? 43).map (fun i => (i.zero, i.size, i.bytes)) = some (some (.int .u32 0), 1, 4) := by kernel_rfl
end Go.Proofs.YtpinpipjlongaaaGreat

/- Instructions as plain numbers and lists of bytes: what each Op has, when an instruction is right, its text, what is drafted of words. No walk stands here. -/
namespace Go.Proofs.YtpinpipjlongaaaGreat

/-- An instruction: its eight numbers. -/
structure Ins where
  op : Int
  d : Int
  s : Int
  t : Int
  u : Int
  a : Int
  k : Int
  pl : Int

def Ins.zero : Ins := ⟨0, 0, 0, 0, 0, 0, 0, 0⟩

/-- Each number fits its field. -/
structure Ins.Wf (i : Ins) : Prop where
  op0 : -9223372036854775808 ≤ i.op
  op1 : i.op ≤ 9223372036854775807
  d0 : -9223372036854775808 ≤ i.d
  d1 : i.d ≤ 9223372036854775807
  s0 : -9223372036854775808 ≤ i.s
  s1 : i.s ≤ 9223372036854775807
  t0 : -9223372036854775808 ≤ i.t
  t1 : i.t ≤ 9223372036854775807
  u0 : -9223372036854775808 ≤ i.u
  u1 : i.u ≤ 9223372036854775807
  a0 : -9223372036854775808 ≤ i.a
  a1 : i.a ≤ 9223372036854775807
  k0 : 0 ≤ i.k
  k1 : i.k < 4294967296
  to0 : -9223372036854775808 ≤ i.pl
  to1 : i.pl ≤ 9223372036854775807

/-- An Op's name. -/
def nmL (op : Int) : List UInt8 :=
  if op = 1 then [99, 111, 110, 115, 116]
  else if op = 2 then [109, 111, 118, 101]
  else if op = 3 then [97, 100, 100, 107]
  else if op = 4 then [97, 110, 100, 107]
  else if op = 5 then [115, 104, 108]
  else if op = 6 then [115, 104, 114]
  else if op = 7 then [111, 114]
  else if op = 8 then [98, 101, 113]
  else if op = 9 then [98, 110, 101]
  else if op = 10 then [106, 117, 109, 112]
  else if op = 11 then [115, 101, 108, 102]
  else if op = 12 then [109, 97, 114, 107]
  else if op = 13 then [100, 111, 110, 101]
  else if op = 16 then [108, 111, 97, 100]
  else if op = 17 then [115, 116, 111, 114, 101]
  else if op = 18 then [115, 119, 97, 112]
  else if op = 19 then [99, 97, 115]
  else if op = 20 then [102, 97, 100, 100]
  else if op = 21 then [97, 119, 97, 105, 116]
  else if op = 22 then [116, 97, 107, 101]
  else if op = 23 then [102, 114, 101, 101]
  else []

/-- What it has, a letter each: D 68, S 83, T 84, U 85, A 65, K 75, P 80. -/
def hsL (op : Int) : List UInt8 :=
  if op = 1 then [68, 75]
  else if op = 2 then [68, 83]
  else if op = 3 then [68, 83, 75]
  else if op = 4 then [68, 83, 75]
  else if op = 5 then [68, 83, 75]
  else if op = 6 then [68, 83, 75]
  else if op = 7 then [68, 83, 84]
  else if op = 8 then [83, 84, 80]
  else if op = 9 then [83, 84, 80]
  else if op = 10 then [80]
  else if op = 11 then [68]
  else if op = 12 then [75]
  else if op = 13 then [75]
  else if op = 16 then [68, 65, 83]
  else if op = 17 then [65, 83, 84]
  else if op = 18 then [68, 65, 83, 84]
  else if op = 19 then [68, 65, 83, 84, 85]
  else if op = 20 then [68, 65, 83, 75]
  else if op = 21 then [68, 65, 83, 75, 84, 80]
  else if op = 22 then [68]
  else if op = 23 then [83]
  else []

/-- The ops that there are. -/
theorem op_cases (op : Int) : op = 1 ∨ op = 2 ∨ op = 3 ∨ op = 4 ∨ op = 5 ∨ op = 6 ∨ op = 7 ∨ op = 8 ∨ op = 9 ∨ op = 10 ∨ op = 11 ∨ op = 12 ∨ op = 13 ∨ op = 16 ∨ op = 17 ∨ op = 18 ∨ op = 19 ∨ op = 20 ∨ op = 21 ∨ op = 22 ∨ op = 23 ∨
    (op ≠ 1 ∧ op ≠ 2 ∧ op ≠ 3 ∧ op ≠ 4 ∧ op ≠ 5 ∧ op ≠ 6 ∧ op ≠ 7 ∧ op ≠ 8 ∧ op ≠ 9 ∧ op ≠ 10 ∧ op ≠ 11 ∧ op ≠ 12 ∧ op ≠ 13 ∧ op ≠ 16 ∧ op ≠ 17 ∧ op ≠ 18 ∧ op ≠ 19 ∧ op ≠ 20 ∧ op ≠ 21 ∧ op ≠ 22 ∧ op ≠ 23) := by omega

/-- What stands for a letter. -/
def getI (i : Ins) (c : Int) : Int :=
  if c = 68 then i.d else if c = 83 then i.s else if c = 84 then i.t else if c = 85 then i.u else if c = 65 then i.a else if c = 75 then i.k else i.pl

def setI (i : Ins) (c v : Int) : Ins :=
  if c = 68 then { i with d := v } else if c = 83 then { i with s := v } else if c = 84 then { i with t := v } else if c = 85 then { i with u := v }
  else if c = 65 then { i with a := v } else if c = 75 then { i with k := v % 4294967296 } else if c = 80 then { i with pl := v } else i

def lowI (op c : Int) : Int :=
  if c = 65 then 0 else if c = 75 then (if op = 12 then 1 else 0) else if c = 80 then (if op = 21 then -1 else 0) else 0

def endI (op c p : Int) : Int :=
  if c = 65 then 8
  else if c = 75 then (if op = 5 then 32 else if op = 6 then 32 else if op = 12 then 5 else if op = 13 then 4 else if op = 21 then 2 else 4294967296)
  else if c = 80 then (if op = 21 then (if p < 0 then 0 else p) else p) else 8

/-- It lies within its bounds. -/
def inB (i : Ins) (p : Int) (c : Int) : Bool := decide (lowI i.op c ≤ getI i c) && decide (getI i c < endI i.op c p)

/-- What is left when the letters' fields are taken out. -/
def clr (i : Ins) (l : List UInt8) : Ins := l.foldl (fun x c => setI x c.toNat 0) { i with op := 0 }

def isZ (i : Ins) : Bool := decide (i.op = 0 ∧ i.d = 0 ∧ i.s = 0 ∧ i.t = 0 ∧ i.u = 0 ∧ i.a = 0 ∧ i.k = 0 ∧ i.pl = 0)

/-- May it be, with as many places? -/
def rightB (i : Ins) (p : Int) : Bool := !(hsL i.op).isEmpty && ((hsL i.op).all (fun c => inB i p c.toNat) && isZ (clr i (hsL i.op)))

/-- A letter. -/
def Ltr (c : Int) : Prop := c = 68 ∨ c = 83 ∨ c = 84 ∨ c = 85 ∨ c = 65 ∨ c = 75 ∨ c = 80

def ltrB (c : UInt8) : Bool := c == 68 || c == 83 || c == 84 || c == 85 || c == 65 || c == 75 || c == 80
theorem hs_none {op : Int} (h : op ≠ 1 ∧ op ≠ 2 ∧ op ≠ 3 ∧ op ≠ 4 ∧ op ≠ 5 ∧ op ≠ 6 ∧ op ≠ 7 ∧ op ≠ 8 ∧ op ≠ 9 ∧ op ≠ 10 ∧ op ≠ 11 ∧ op ≠ 12 ∧ op ≠ 13 ∧ op ≠ 16 ∧ op ≠ 17 ∧ op ≠ 18 ∧ op ≠ 19 ∧ op ≠ 20 ∧ op ≠ 21 ∧ op ≠ 22 ∧ op ≠ 23) : hsL op = [] ∧ nmL op = [] := by
  unfold hsL nmL; simp [h]
theorem hs_all (op : Int) : (hsL op).all ltrB = true := by
  rcases op_cases op with rfl | rfl | rfl | rfl | rfl | rfl | rfl | rfl | rfl | rfl | rfl | rfl | rfl | rfl | rfl | rfl | rfl | rfl | rfl | rfl | rfl | hn
  all_goals first | rfl | (rw [(hs_none hn).1]; rfl)
theorem ltr_of {c : UInt8} (h : ltrB c = true) : Ltr c.toNat := by
  unfold ltrB at h
  simp at h
  unfold Ltr
  rcases h with ((((((rfl | rfl) | rfl) | rfl) | rfl) | rfl) | rfl) <;> decide
theorem hs_ltr (op : Int) : ∀ c ∈ hsL op, Ltr c.toNat := fun c hc => ltr_of (List.all_eq_true.1 (hs_all op) c hc)
theorem hs_len (op : Int) : (hsL op).length ≤ 6 := by
  rcases op_cases op with rfl | rfl | rfl | rfl | rfl | rfl | rfl | rfl | rfl | rfl | rfl | rfl | rfl | rfl | rfl | rfl | rfl | rfl | rfl | rfl | rfl | hn
  all_goals first | decide | (rw [(hs_none hn).1]; decide)

/-- Two instructions are one. -/
def eqI (i j : Ins) : Bool := i.op == j.op && (i.d == j.d && (i.s == j.s && (i.t == j.t && (i.u == j.u && (i.a == j.a && (i.k == j.k && i.pl == j.pl))))))
theorem isZ_eq (i : Ins) : isZ i = eqI i Ins.zero := by
  rw [Bool.eq_iff_iff]
  simp [isZ, eqI, Ins.zero]

end Go.Proofs.YtpinpipjlongaaaGreat

/- Row, Own, Labs, Vls, Lst, Iter, Inv, InvT, one behind the other. -/
/- Which blocks may have changed (a set of them); lists as rows of cells: over any program. -/
namespace Go.Proofs.YtpinpipjlongaaaGreat
open Go.ChangeShapes Go.WideShapes Go.ChangeAt Go.RowKit

/-- Nothing but blocks of S, and what is new, has changed. -/
structure Within (w w' : World) (S : Nat → Prop) : Prop where
  os : w'.os = w.os
  tape : w'.tape = w.tape
  output : w'.output = w.output
  size : w.heap.size ≤ w'.heap.size
  block : ∀ i, i < w.heap.size → ¬ S i → w'.heap[i]? = w.heap[i]?

section
variable {w w' w'' : World} {S S' : Nat → Prop}
theorem Within.refl (w : World) (S : Nat → Prop) : Within w w S := ⟨rfl, rfl, rfl, Nat.le_refl _, fun _ _ _ => rfl⟩
/-- One behind the other: what the second one may change is what the first one may, or new. -/
theorem Within.then_ (h : Within w w' S) (k : Within w' w'' S') (hs : ∀ i, S' i → S i ∨ w.heap.size ≤ i) : Within w w'' S :=
  ⟨k.os.trans h.os, k.tape.trans h.tape, k.output.trans h.output, Nat.le_trans h.size k.size, fun i hi hn =>
    (k.block i (Nat.lt_of_lt_of_le hi h.size) (fun e => by rcases hs i e with e | e
                                                           · exact hn e
                                                           · omega)).trans (h.block i hi hn)⟩
theorem Within.wide (h : Within w w' S) (hs : ∀ i, S i → i < w.heap.size → S' i) : Within w w' S' := ⟨h.os, h.tape, h.output, h.size, fun i hi hn => h.block i hi (fun e => hn (hs i e hi))⟩
theorem Within.of_grown {r : Option Nat} (h : w.grownBy w' r) (hs : ∀ i, r = some i → S i ∨ w.heap.size ≤ i) : Within w w' S :=
  ⟨h.os, h.tape, h.output, h.size, fun i hi hn => h.block i hi (fun e => by rcases hs i e.symm with e | e
                                                                            · exact hn e
                                                                            · omega)⟩
theorem Within.draws (h : Within w w' S) (n : Nat) : Within w (w'.drewN n) S := ⟨h.os, h.tape, h.output, h.size, h.block⟩
theorem Within.alloc (h : Within w w' S) (o : Obj) : Within w (w'.alloc o) S := h.then_ (.of_grown (S := fun _ => False) (grown_made _ _ none) (by simp)) (by simp)
theorem Within.put (h : Within w w' S) (g i : Nat) (u : Value) (hs : S g ∨ w.heap.size ≤ g) : Within w (w'.setCell ⟨g, i, none⟩ u) S :=
  h.then_ (.of_grown (S := fun j => j = g) (only_put _ _ _ _) (by simp)) (by rintro i rfl; exact hs)
theorem Within.grown (h : Within w w' S) (hs : ∀ i, S i → w.heap.size ≤ i) : w.grownBy w' none := ⟨h.os, h.tape, h.output, h.size, fun i hi _ => h.block i hi (fun e => by have := hs i e; omega)⟩
theorem Within.below (h : Within w w' S) (hs : ∀ i, S i → w.heap.size ≤ i) : Below w.heap.size w w' := below_of_grown (h.grown hs)
theorem Bk.within {g : Nat} {t : TypeId} {cs : Array Value} (h : Bk w g t cs) (k : Within w w' S) (hn : ¬ S g) : Bk w' g t cs := (k.block g h.lt hn).trans h
end

/-- Behind a call of what is blocks p and og: only these may have changed; og is the same, or new. -/
def Moved (w : World) (p : Nat) (og : Option Nat) (w' : World) (og' : Option Nat) : Prop :=
  (og' = og ∨ ∃ g, og' = some g ∧ w.heap.size ≤ g) ∧ Within w w' (fun b => b = p ∨ some b = og)
/-- Since world a nothing that was there has changed; p and og are new since then. -/
def Fresh (a w : World) (p : Nat) (og : Option Nat) : Prop := a.grownBy w none ∧ a.heap.size ≤ p ∧ ∀ g, og = some g → a.heap.size ≤ g
section
variable {a w w' : World} {p : Nat} {og og' : Option Nat}
theorem Fresh.within (h : Fresh a w p og) (k : Within w w' (fun b => b = p ∨ some b = og)) : Fresh a w' p og := by
  refine ⟨?_, h.2⟩
  have h1 : Within a w' (fun _ => False) := Within.then_ (.of_grown h.1 (by simp)) k (by
    rintro i (rfl | e)
    · exact .inr h.2.1
    · exact .inr (h.2.2 i e.symm))
  exact h1.grown (by simp)
theorem Fresh.moved (h : Fresh a w p og) (k : Moved w p og w' og') : Fresh a w' p og' := by
  have h1 := h.within k.2
  refine ⟨h1.1, h.2.1, fun g e => ?_⟩
  rcases k.1 with rfl | ⟨g', rfl, hg⟩
  · exact h.2.2 g e
  · obtain rfl : g' = g := by injection e
    exact Nat.le_trans h.1.size hg
theorem Fresh.draws (h : Fresh a w p og) (n : Nat) : Fresh a (w.drewN n) p og := ⟨grown_draws h.1 n, h.2⟩
theorem Fresh.more (h : Fresh a w p og) (k : w.grownBy w' none) : Fresh a w' p og := ⟨grown_then h.1 k (.inl rfl), h.2⟩
end

theorem cell_off {w : World} {b i : Nat} {u : Value} {c j : Nat} (h : c ≠ b) : (w.setCell ⟨b, i, none⟩ u).cell? ⟨c, j, none⟩ = w.cell? ⟨c, j, none⟩ :=
  World.cell?_of_block (Below.heap_setCell w ⟨b, i, none⟩ u c h)

/-- A list's element; z where there is none. A plain definition, so that a walk leaves it alone. -/
def nthO {α : Type} (z : α) (xs : List α) (i : Nat) : α := xs.getD i z
section
variable {α : Type} {z : α}
theorem nthO_get {xs : List α} {i : Nat} (h : i < xs.length) : xs[i]? = some (nthO z xs i) := by simp [nthO, h]
theorem nthO_set {xs : List α} {i j : Nat} {v : α} (h : i < xs.length) : nthO z (xs.set i v) j = if i = j then v else nthO z xs j := by
  unfold nthO; simp only [List.getD_eq_getElem?_getD, List.getElem?_set]
  by_cases e : i = j
  · subst e; simp [h]
  · simp [e]
theorem nthO_append_lt {xs ys : List α} {i : Nat} (h : i < xs.length) : nthO z (xs ++ ys) i = nthO z xs i := by simp [nthO, List.getD_eq_getElem?_getD, List.getElem?_append, h]
theorem nthO_append_eq {xs : List α} {v : α} : nthO z (xs ++ [v]) xs.length = v := by simp [nthO]
/-- A list as a row of cells. -/
def rowOf (C : α → Value) (xs : List α) : Array Value := (xs.map C).toArray
theorem rowOf_at (C : α → Value) {xs : List α} {i : Nat} (h : i < xs.length) : (rowOf C xs)[i]? = some (C (nthO z xs i)) := by simp [rowOf, nthO, h]
theorem rowOf_set (C : α → Value) (xs : List α) (i : Nat) (v : α) : (rowOf C xs).setIfInBounds i (C v) = rowOf C (xs.set i v) := by
  unfold rowOf; rw [List.setIfInBounds_toArray, List.map_set]
theorem rowOf_made (C : α → Value) (z : α) (n : Nat) : madeCells #[C z] n = rowOf C (List.replicate n z) := by
  apply Array.ext
  · simp [madeCells, rowOf]
  · intro i h1 h2; simp [madeCells, rowOf, Nat.mod_one]

/-- The first k of vs, then what was there. -/
def layTo (vs ds : List α) (k : Nat) : List α := vs.take k ++ ds.drop k
theorem layTo_len (vs ds : List α) (k : Nat) (h : k ≤ vs.length) (hd : k ≤ ds.length) : (layTo vs ds k).length = ds.length := by simp [layTo]; omega
theorem layTo_0 (vs ds : List α) : layTo vs ds 0 = ds := by simp [layTo]
theorem layTo_at (vs ds : List α) (k i : Nat) (hk : k ≤ vs.length) (h : i < k) : nthO z (layTo vs ds k) i = nthO z vs i := by
  simp [layTo, nthO, List.getD_eq_getElem?_getD, List.getElem?_append, List.getElem?_take]
  rw [if_pos (by omega), if_pos h]
theorem layTo_set (vs ds : List α) (k : Nat) (h : k < vs.length) (hd : k < ds.length) : (layTo vs ds k).set k (nthO z vs k) = layTo vs ds (k + 1) := by
  unfold layTo
  have e : vs.take (k + 1) = vs.take k ++ [nthO z vs k] := by rw [List.take_add_one, nthO_get (z := z) h]; rfl
  rw [e, List.set_append, if_neg (by simp; omega)]
  have e2 : ds.drop k = ds[k] :: ds.drop (k + 1) := by rw [List.drop_eq_getElem_cons hd]
  rw [e2]
  have e3 : k - (vs.take k).length = 0 := by simp; omega
  rw [e3, List.set_cons_zero, List.append_assoc, List.singleton_append]
end
end Go.Proofs.YtpinpipjlongaaaGreat

/- A row of the call's own, of whatever elements: append of one, as a step of a region that draws its order, and at the operation; what a row holds behind other changes. Over any program. -/
namespace Go.Proofs.YtpinpipjlongaaaGreat
open Go.ChangeShapes Go.WideShapes Go.ChangeAt Go.RowKit
set_option linter.unusedVariables false

section
variable {P : Program} {w w' : World} {base : Nat} {t : TypeId} {size : Nat} {v : Value} {n : Nat} {xs : List Value}
theorem own_bk (h : w.ownsRow base t size v n xs) {g : Nat} (e : v.ownBlock = some g) : ∃ cs, Bk w g t cs := by
  rcases h.2 with ⟨rfl, _⟩ | ⟨g', cap, cur, rfl, _, hg, _⟩
  · cases e
  · simp only [Value.ownBlock, Option.some.injEq] at e; subst e; exact ⟨cur, hg⟩
theorem own_within {S : Nat → Prop} (h : w.ownsRow base t size v n xs) (hk : Within w w' S) (hn : ∀ g, v.ownBlock = some g → ¬ S g) : w'.ownsRow base t size v n xs := by
  rcases h.2 with ⟨rfl, h0⟩ | ⟨g, cap, cur, rfl, hb, hg, r⟩
  · exact ⟨h.1, .inl ⟨rfl, h0⟩⟩
  · exact ⟨h.1, .inr ⟨g, cap, cur, rfl, hb, (hk.block g (Array.getElem?_eq_some_iff.1 hg).1 (hn g rfl)).trans hg, r⟩⟩
theorem own_is (h : w.ownsRow base t size v n xs) : ∃ a cap, v = .slice a n cap ∧ n ≤ cap ∧ cap ≤ maxLen ∧ (0 < n → ∃ g, a = some ⟨g, 0, none⟩ ∧ v.ownBlock = some g ∧ base ≤ g ∧ g < w.heap.size ∧ (∀ i, w.frozen? ⟨g, i, none⟩ = false) ∧ ∀ i, i < n * size → w.cell? ⟨g, i, none⟩ = xs[i]?) := by
  rcases h.2 with ⟨rfl, h0⟩ | ⟨g, cap, cur, rfl, hb, hg, hnc, hcm, r⟩
  · exact ⟨none, 0, by rw [h0], by omega, by simp, fun h => by omega⟩
  · exact ⟨some ⟨g, 0, none⟩, cap, rfl, hnc, hcm, fun _ => ⟨g, rfl, rfl, hb, (Array.getElem?_eq_some_iff.1 hg).1, fun i => Bk.free (cs := cur) (t := t) hg i, fun i hi => World.ownsRow.cellAt h i hi⟩⟩
end

section
variable {P : Program} {ops : Array Oper} {rest : List Oper} {o : Oper} {a : Act} {w : World} {K : Act → World → Prop} {Q : Exit → Act → World → Prop} {E : Prop} {base : Nat} {t : TypeId} {size : Nat} {v : Value} {n : Nat} {xs : List Value}
theorem step_own (hgd : o.guard = none) (s x : Operand) (ts : TypeId) (ho : o.op = Op.call { callee := Callee.builtin Builtin.append, args := #[s, x], argTypes := #[ts, ts] })
    (z : Value) (bytes : Nat) (ht : P.underlying ts = some (.slice t)) (hi : (P.info? t).map (fun i => (i.zero, i.size, i.bytes)) = some (some z, size, bytes)) (hz : z.cells.size = size) (hsz : 0 < size) (hby : bytes ≤ 200)
    (h : w.ownsRow base t size v n xs) (hs : a.eval s = v) (news : List Value) (hnl : news.length = size) (hone : ∀ u ∈ news, u.oneCell' = true) (B : Nat) (hx : a.eval x = .slice (some ⟨B, 0, none⟩) 1 1)
    (hB : ∀ j u, news[j]? = some u → w.cell? ((⟨B, 0, none⟩ : Addr).add j) = some u) (hl : n < 100000) (hbase : base ≤ w.heap.size)
    (hK : ∀ v' w', w'.ownsRow base t size v' (n + 1) (xs ++ news) → w.grownBy w' v.ownBlock → (v'.ownBlock = v.ownBlock ∨ v'.ownBlock = some w.heap.size) → K (a.put o.dst v') w') :
    if Region.wanted o (yielded ops a.tmps) = true then Oper.wp P o a w K Q else E := by
  obtain ⟨i0, hi0, hz0, hz1, hz2⟩ := info_parts hi
  have hw : Region.wanted o (yielded ops a.tmps) = true := by simp [Region.wanted, hgd]
  rw [if_pos hw]
  obtain ⟨v', w', hr, h2, h3, h4, h5⟩ := run_append_own_at (P := P) w base ts o.type t i0 z size bytes ht hi0 hz0 hz1 hz2 hz hsz v n xs h ⟨B, 0, none⟩ 1 1 news (by omega) hB hone (by simp only [maxLen]; omega)
    (by have : (n + 1) * bytes ≤ 100001 * 200 := Nat.mul_le_mul (by omega) hby
        omega) hbase
  unfold Oper.wp
  simp [execOp, ho, resolve, invoke, builtin, hs, hx, hr, Result.andThen]
  exact hK v' w' h2 h3 h5

theorem wpOwn (hgd : o.guard = none) (s x : Operand) (ts : TypeId) (ho : o.op = Op.call { callee := Callee.builtin Builtin.append, args := #[s, x], argTypes := #[ts, ts] })
    (z : Value) (bytes : Nat) (ht : P.underlying ts = some (.slice t)) (hi : (P.info? t).map (fun i => (i.zero, i.size, i.bytes)) = some (some z, size, bytes)) (hz : z.cells.size = size) (hsz : 0 < size) (hby : bytes ≤ 200)
    (h : w.ownsRow base t size v n xs) (hs : a.eval s = v) (news : List Value) (hnl : news.length = size) (hone : ∀ u ∈ news, u.oneCell' = true) (B : Nat) (hx : a.eval x = .slice (some ⟨B, 0, none⟩) 1 1)
    (hB : ∀ j u, news[j]? = some u → w.cell? ((⟨B, 0, none⟩ : Addr).add j) = some u) (hl : n < 100000) (hbase : base ≤ w.heap.size)
    (hK : ∀ v' w', w'.ownsRow base t size v' (n + 1) (xs ++ news) → w.grownBy w' v.ownBlock → (v'.ownBlock = v.ownBlock ∨ v'.ownBlock = some w.heap.size) → wpList P ops Q rest (a.put o.dst v') w') :
    wpList P ops Q (o :: rest) a w := by
  obtain ⟨i0, hi0, hz0, hz1, hz2⟩ := info_parts hi
  refine wpList_append_own_at _ hgd s x ts ho base t i0 _ size bytes ht hi0 hz0 hz1 hz2 hz hsz v n xs hs h ⟨B, 0, none⟩ 1 1 news hx (by omega) hB hone (by simp only [maxLen]; omega)
    (by have : (n + 1) * bytes ≤ 100001 * 200 := Nat.mul_le_mul (by omega) hby
        omega) hbase fun v' w' h2 h3 _ h5 => hK v' w' h2 h3 h5
end
/-- Cells of a block, from its first one on, as an address' own. -/
theorem news_bk {w : World} {B : Nat} {t : TypeId} {cs : Array Value} (h : Bk w B t cs) : ∀ (j : Nat) (u : Value), cs.toList[j]? = some u → w.cell? ((⟨B, 0, none⟩ : Addr).add j) = some u := by
  intro j u hj
  have ea : (⟨B, 0, none⟩ : Addr).add j = ⟨B, j, none⟩ := by unfold Addr.add; split <;> simp_all
  rw [ea, h.cell j]
  simpa using hj
end Go.Proofs.YtpinpipjlongaaaGreat

/- A map from strings to ints that the call itself has made, as a list of names with their places; what a look-up and a store do. -/
namespace Go.Proofs.YtpinpipjlongaaaGreat
open Go.ChangeShapes Go.WideShapes Go.ChangeAt Go.RowKit Go.Maps
set_option linter.unusedVariables false

section
variable {w w' : World} {b : Nat} {ls : List (List UInt8 × Int)}
end
end Go.Proofs.YtpinpipjlongaaaGreat

/- A slice of one-cell values that the call itself makes by append, one at a time, from nil on. Over any program. -/
namespace Go.Proofs.YtpinpipjlongaaaGreat
open Go.ChangeShapes Go.WideShapes Go.ChangeAt Go.RowKit

/-- The value v is a slice of just these one-cell values, in a row of its own (or nil). -/
def Vls (t : TypeId) (w : World) (v : Value) (us : List Value) : Prop := w.ownsRow 0 t 1 v us.length us
section
variable {t : TypeId} {w w' : World} {v : Value} {us : List Value}
theorem Vls.nil (t : TypeId) (w : World) : Vls t w (.slice none 0 0) [] := World.ownsRow_nil _ _ _ _
theorem Vls.lt (h : Vls t w v us) {g : Nat} (e : v.ownBlock = some g) : g < w.heap.size := (World.ownsRow.lt h g e).2
theorem Vls.bk (h : Vls t w v us) {g : Nat} (e : v.ownBlock = some g) : ∃ cs, Bk w g t cs := by
  rcases h.2 with ⟨rfl, _⟩ | ⟨g', cap, cur, rfl, _, hg, _⟩
  · cases e
  · simp only [Value.ownBlock, Option.some.injEq] at e; subst e; exact ⟨cur, hg⟩
theorem Vls.within {S : Nat → Prop} (h : Vls t w v us) (hk : Within w w' S) (hn : ∀ g, v.ownBlock = some g → ¬ S g) : Vls t w' v us := by
  rcases h.2 with ⟨rfl, h0⟩ | ⟨g, cap, cur, rfl, hb, hg, r⟩
  · exact ⟨h.1, .inl ⟨rfl, h0⟩⟩
  · exact ⟨h.1, .inr ⟨g, cap, cur, rfl, hb, (hk.block g (Array.getElem?_eq_some_iff.1 hg).1 (hn g rfl)).trans hg, r⟩⟩
theorem Vls.alloc (h : Vls t w v us) (o : Obj) : Vls t (w.alloc o) v us := World.ownsRow.alloc h o
theorem Vls.is (h : Vls t w v us) : ∃ a cap, v = .slice a us.length cap ∧ us.length ≤ cap ∧ cap ≤ maxLen ∧ (0 < us.length → ∃ g, a = some ⟨g, 0, none⟩ ∧ v.ownBlock = some g ∧ (∀ i, w.frozen? ⟨g, i, none⟩ = false) ∧ ∀ i, w.cell? ⟨g, i, none⟩ = us[i]? ∨ us.length ≤ i) := by
  rcases h.2 with ⟨rfl, h0⟩ | ⟨g, cap, cur, rfl, hb, hg, hnc, hcm, r⟩
  · exact ⟨none, 0, by rw [h0], by omega, by simp, fun h => by omega⟩
  · refine ⟨some ⟨g, 0, none⟩, cap, rfl, hnc, hcm, fun _ => ⟨g, rfl, rfl, fun i => Bk.free (cs := cur) (t := t) hg i, fun i => ?_⟩⟩
    by_cases hi : i < us.length
    · exact .inl (World.ownsRow.cellAt h i (by omega))
    · exact .inr (by omega)
theorem Vls.put {g cap : Nat} (h : Vls t w (.slice (some ⟨g, 0, none⟩) us.length cap) us) (i : Nat) (u : Value) : Vls t (w.setCell ⟨g, i, none⟩ u) (.slice (some ⟨g, 0, none⟩) us.length cap) (us.set i u) := by
  have := (World.ownsRow.stored h i u).1
  unfold Vls; rw [List.length_set]; exact this
end
section
variable {t : TypeId} {w : World} {v : Value} {us : List Value} {P : Program} {ops : Array Oper} {rest : List Oper} {o : Oper} {a : Act} {Q : Exit → Act → World → Prop}
/-- append of one value, which the translation has laid in a block of its own. -/
theorem wpVlsApp (hgd : o.guard = none) (s x : Operand) (ts : TypeId) (ho : o.op = .call { callee := .builtin .append, args := #[s, x], argTypes := #[ts, ts] })
    (z : Value) (bytes : Nat) (ht : P.underlying ts = some (.slice t)) (hi : (P.info? t).map (fun i => (i.zero, i.size, i.bytes)) = some (some z, 1, bytes)) (hz : z.cells.size = 1) (hby : bytes ≤ 24)
    (h : Vls t w v us) (hs : a.eval s = v) (y : Value) (hy : y.oneCell' = true) (hx : a.eval x = .slice (some ⟨w.heap.size, 0, none⟩) 1 1) (hl : us.length < 1000000)
    (hK : ∀ v' w', Vls t w' v' (us ++ [y]) → w.grownBy w' v.ownBlock → (v'.ownBlock = v.ownBlock ∨ v'.ownBlock = some (w.heap.size + 1)) → wpList P ops Q rest (a.put o.dst v') w') :
    wpList P ops Q (o :: rest) a (w.alloc (.cells #[y] t)) := by
  obtain ⟨i0, hi0, hz0, hz1, hz2⟩ := info_parts hi
  refine wpList_append_own_at _ hgd s x ts ho 0 t i0 _ 1 bytes ht hi0 hz0 hz1 hz2 hz (by omega) v us.length us hs (h.alloc _) ⟨w.heap.size, 0, none⟩ 1 1 [y] hx rfl (cell_one_new _ _ _) (by intro u hu; simp at hu; subst hu; exact hy) (by simp only [maxLen]; omega) ?_ (Nat.zero_le _) ?_
  · have : (us.length + 1) * bytes ≤ 1000001 * 24 := Nat.mul_le_mul (by omega) hby
    omega
  · intro v' w' hown hgr _ hloc
    refine hK v' w' ?_ ?_ ?_
    · unfold Vls; simpa using hown
    · exact grown_then (grown_made _ _ _) hgr (.inl rfl)
    · simpa using hloc
end
end Go.Proofs.YtpinpipjlongaaaGreat

/- A slice of integers that the call itself makes by append, one element at a time, from nil on: what it is, and what append and a look at it do. Over any program. -/
namespace Go.Proofs.YtpinpipjlongaaaGreat
open Go.ChangeShapes Go.WideShapes Go.ChangeAt Go.RowKit

/-- The value v is a slice of just the integers xs, in a row of its own (or nil). -/
def Lst (k : IntKind) (t : TypeId) (w : World) (v : Value) (xs : List Int) : Prop := w.ownsRow 0 t 1 v xs.length (xs.map (Value.int k))

section
variable {k : IntKind} {t : TypeId} {w w' : World} {v : Value} {xs : List Int}
theorem Lst.nil (k : IntKind) (t : TypeId) (w : World) : Lst k t w (.slice none 0 0) [] := World.ownsRow_nil _ _ _ _
theorem Lst.lt (h : Lst k t w v xs) {g : Nat} (e : v.ownBlock = some g) : g < w.heap.size := (World.ownsRow.lt h g e).2
theorem Lst.bk (h : Lst k t w v xs) {g : Nat} (e : v.ownBlock = some g) : ∃ cs, Bk w g t cs := by
  rcases h.2 with ⟨rfl, _⟩ | ⟨g', cap, cur, rfl, _, hg, _⟩
  · cases e
  · simp only [Value.ownBlock, Option.some.injEq] at e; subst e; exact ⟨cur, hg⟩
theorem Lst.kept {r : Option Nat} (h : Lst k t w v xs) (hg : w.grownBy w' r) (hne : v.ownBlock = none ∨ v.ownBlock ≠ r) : Lst k t w' v xs := World.ownsRow.kept h hg hne
theorem Lst.within {S : Nat → Prop} (h : Lst k t w v xs) (hk : Within w w' S) (hn : ∀ g, v.ownBlock = some g → ¬ S g) : Lst k t w' v xs := by
  rcases h.2 with ⟨rfl, h0⟩ | ⟨g, cap, cur, rfl, hb, hg, r⟩
  · exact ⟨h.1, .inl ⟨rfl, h0⟩⟩
  · exact ⟨h.1, .inr ⟨g, cap, cur, rfl, hb, (hk.block g (Array.getElem?_eq_some_iff.1 hg).1 (hn g rfl)).trans hg, r⟩⟩
theorem Lst.drewN (h : Lst k t w v xs) (m : Nat) : Lst k t (w.drewN m) v xs := h
theorem Lst.alloc (h : Lst k t w v xs) (o : Obj) : Lst k t (w.alloc o) v xs := World.ownsRow.alloc h o
/-- What slice it is. -/
theorem Lst.is (h : Lst k t w v xs) : ∃ a cap, v = .slice a xs.length cap ∧ xs.length ≤ cap ∧ cap ≤ maxLen ∧ (0 < xs.length → ∃ g, a = some ⟨g, 0, none⟩ ∧ v.ownBlock = some g ∧ (∀ i, w.frozen? ⟨g, i, none⟩ = false) ∧ ∀ i, i < xs.length → w.cell? ⟨g, i, none⟩ = some (.int k (nth xs i))) := by
  rcases h.2 with ⟨rfl, h0⟩ | ⟨g, cap, cur, rfl, hb, hg, hnc, hcm, r⟩
  · exact ⟨none, 0, by rw [h0], by omega, by simp, fun h => by omega⟩
  · refine ⟨some ⟨g, 0, none⟩, cap, rfl, hnc, hcm, fun _ => ⟨g, rfl, rfl, fun i => Bk.free (cs := cur) (t := t) hg i, fun i hi => ?_⟩⟩
    rw [World.ownsRow.cellAt h i (by omega), List.getElem?_map, nth_get hi]; rfl
/-- An element is another. -/
theorem Lst.put {g cap : Nat} (h : Lst k t w (.slice (some ⟨g, 0, none⟩) xs.length cap) xs) (i : Nat) (y : Int) : Lst k t (w.setCell ⟨g, i, none⟩ (.int k y)) (.slice (some ⟨g, 0, none⟩) xs.length cap) (xs.set i y) := by
  have := (World.ownsRow.stored h i (.int k y)).1
  unfold Lst; rw [List.length_set, List.map_set]; exact this
end

section
variable {k : IntKind} {t : TypeId} {w : World} {v : Value} {xs : List Int} {P : Program} {ops : Array Oper} {rest : List Oper} {o : Oper} {a : Act} {Q : Exit → Act → World → Prop}
/-- append of one element, which the translation has laid in a block of its own. -/
theorem wpLstApp (hgd : o.guard = none) (s x : Operand) (ts : TypeId) (ho : o.op = .call { callee := .builtin .append, args := #[s, x], argTypes := #[ts, ts] })
    (bytes : Nat) (ht : P.underlying ts = some (.slice t)) (hi : (P.info? t).map (fun i => (i.zero, i.size, i.bytes)) = some (some (.int k 0), 1, bytes)) (hby : bytes ≤ 8)
    (h : Lst k t w v xs) (hs : a.eval s = v) (y : Int) (hx : a.eval x = .slice (some ⟨w.heap.size, 0, none⟩) 1 1) (hl : xs.length < 1000000)
    (hK : ∀ v' w', Lst k t w' v' (xs ++ [y]) → w.grownBy w' v.ownBlock → (v'.ownBlock = v.ownBlock ∨ v'.ownBlock = some (w.heap.size + 1)) → wpList P ops Q rest (a.put o.dst v') w') :
    wpList P ops Q (o :: rest) a (w.alloc (.cells #[.int k y] t)) := by
  obtain ⟨i0, hi0, hz0, hz1, hz2⟩ := info_parts hi
  refine wpList_append_own_at _ hgd s x ts ho 0 t i0 _ 1 bytes ht hi0 hz0 hz1 hz2 rfl (by omega) v xs.length (xs.map (Value.int k)) hs (h.alloc _) ⟨w.heap.size, 0, none⟩ 1 1 [.int k y] hx rfl (cell_one_new _ _ _) (ints_oneCell k [y]) (by simp only [maxLen]; omega) ?_ (Nat.zero_le _) ?_
  · have : (xs.length + 1) * bytes ≤ 1000001 * 8 := Nat.mul_le_mul (by omega) hby
    omega
  · intro v' w' hown hgr _ hloc
    refine hK v' w' ?_ ?_ ?_
    · unfold Lst; simpa using hown
    · exact grown_then (grown_made _ _ _) hgr (.inl rfl)
    · simpa using hloc
end
end Go.Proofs.YtpinpipjlongaaaGreat

/- A range over a function whose iterator keeps state in cells of its own, and whose body may write whatever else there is: over any program. -/
namespace Go.Proofs.YtpinpipjlongaaaGreat
open Go.ChangeShapes Go.WideShapes Go.ChangeAt Go.RowKit
set_option linter.unusedVariables false

end Go.Proofs.YtpinpipjlongaaaGreat

/- A region that draws its order, by a word that holds whatever has been done: over any program. -/
namespace Go.Proofs.YtpinpipjlongaaaGreat
open Go.ChangeShapes Go.WideShapes Go.ChangeAt Go.RowKit
set_option linter.unusedVariables false

/-- How many are still to be done. -/
def left (listed : Array Bool) : Nat := (listed.toList.filter fun b => !b).length
theorem left_set : ∀ (l : List Bool) (i : Nat), l[i]? = some false → ((l.set i true).filter fun b => !b).length + 1 = (l.filter fun b => !b).length
  | [], i, h => by simp at h
  | b :: l, 0, h => by simp at h; subst h; simp
  | b :: l, i + 1, h => by
    have ih := left_set l i (by simpa using h)
    cases b <;> simp at ih ⊢ <;> omega
theorem left_none : ∀ (l : List Bool) (i : Nat), (l.filter fun b => !b).length = 0 → l[i]? ≠ some false
  | [], i, h => by simp
  | b :: l, 0, h => by cases b <;> simp at h ⊢
  | b :: l, i + 1, h => by
    have ih := left_none l i (by cases b <;> simp at h ⊢; exact h)
    simpa using ih

section
variable {P : Program} {ops : Array Oper} {Q : Exit → Act → World → Prop}
theorem ready_free {listed : Array Bool} {i : Nat} (h : i ∈ Region.ready .any ops listed) : listed.toList[i]? = some false := by
  unfold Region.ready at h
  rw [List.mem_filter] at h
  have h2 := h.2
  simp only [Bool.and_eq_true, Bool.not_eq_true'] at h2
  have h3 := h2.1
  rw [Array.getElem?_toList]
  rw [Array.getD_eq_getD_getElem?] at h3
  cases e : listed[i]? with
  | none => rw [e] at h3; simp at h3
  | some b => rw [e] at h3; simp at h3; rw [h3]
theorem wpAny_inv (Inv : Array Bool → Act → World → Prop)
    (hstep : ∀ listed a w i, Inv listed a w → i ∈ Region.ready .any ops listed → wpOp P ops Q i (fun a' w' => Inv (listed.setIfInBounds i true) a' w') a w)
    (hend : ∀ listed a w, Inv listed a w → Region.ready .any ops listed = [] → Q .normal a w) :
    ∀ (fuel : Nat) (listed : Array Bool) (a : Act) (w : World), Inv listed a w → left listed ≤ fuel → wpAny P .any ops Q fuel listed a w
  | 0, listed, a, w, hi, hf => by
    have e : Region.ready .any ops listed = [] := by
      rw [List.eq_nil_iff_forall_not_mem]
      intro i h
      exact left_none listed.toList i (by unfold left at hf; omega) (ready_free h)
    exact ⟨e, hend _ _ _ hi e⟩
  | fuel + 1, listed, a, w, hi, hf => by
    refine ⟨fun e => hend _ _ _ hi e, fun i h => wpOp_mono (fun a' w' h2 => ?_) (hstep listed a w i hi h)⟩
    refine wpAny_inv Inv hstep hend fuel _ a' w' h2 ?_
    have := left_set listed.toList i (ready_free h)
    unfold left at hf ⊢
    rw [Array.toList_setIfInBounds]
    omega
theorem wp_region_inv {id : Nat} {a : Act} {w : World} (hm : P.follows .mixedOrders = true) (Inv : Array Bool → Act → World → Prop) (h0 : Inv (Array.replicate ops.size false) a w.drew)
    (hstep : ∀ listed a w i, Inv listed a w → i ∈ Region.ready .any ops listed → wpOp P ops Q i (fun a' w' => Inv (listed.setIfInBounds i true) a' w') a w)
    (hend : ∀ listed a w, Inv listed a w → Region.ready .any ops listed = [] → Q .normal a w) : (Code.region id ops true).wp P Q a w :=
  wp_region_any hm (wpAny_inv Inv hstep hend _ _ _ _ h0 (by unfold left; exact Nat.le_trans (List.length_filter_le _ _) (by simp)))
end

-- what each operation leaves, whatever else has been done

def dstOf (ops : Array Oper) (i : Nat) : Option Tmp := (ops[i]?).bind (·.dst)
/-- The operation that a slot is of. -/
def ownOf (ops : Array Oper) (t : Nat) : Option Nat := (List.range ops.size).find? fun i => dstOf ops i == some t
def depsOf (ops : Array Oper) (i : Nat) : List Nat := match ops[i]? with
  | some o => (o.after.toList.filter fun e => Region.binds .any e).map (·.on)
  | none => []
def noSel : Op → Bool
  | .select .. => false
  | _ => true
/-- What an operation looks at is what it waits for, or nothing of the region's; no slot is of two. -/
def relyB (ops : Array Oper) : Bool := (List.range ops.size).all fun i => match ops[i]? with
  | some o => noSel o.op && ((o.looksAt ops).all fun t => match ownOf ops t with
      | some j => (depsOf ops i).contains j
      | none => true) && (match o.dst with
      | some d => ownOf ops d == some i
      | none => true) && ((depsOf ops i).all fun j => decide (j < i))
  | none => false
def over (f : Nat → Option Value) : List Value → Nat → List Value
  | [], _ => []
  | x :: xs, t => (f t).getD x :: over f xs (t + 1)
theorem over_at (f : Nat → Option Value) : ∀ (xs : List Value) (t k : Nat), (over f xs t)[k]? = (xs[k]?).map fun x => (f (t + k)).getD x
  | [], t, k => by simp [over]
  | x :: xs, t, 0 => by simp [over]
  | x :: xs, t, k + 1 => by
    have ih := over_at f xs (t + 1) k
    simp [over, ih, Nat.add_assoc, Nat.add_comm 1 k]
/-- The frame, when those of d have been done. -/
def frameOf (ops : Array Oper) (a : Act) (d : Nat → Bool) (vs : Nat → Value) : Act :=
  { a with tmps := (over (fun t => match ownOf ops t with
      | some i => if d i = true then some (vs i) else none
      | none => none) a.tmps.toList 0).toArray }
theorem frame_at (ops : Array Oper) (a : Act) (d : Nat → Bool) (vs : Nat → Value) (t : Nat) : (frameOf ops a d vs).tmps[t]? = (a.tmps[t]?).map fun x => (match ownOf ops t with
      | some i => if d i = true then some (vs i) else none
      | none => none).getD x := by
  simp [frameOf, over_at]
theorem frame_none (ops : Array Oper) (a : Act) (vs : Nat → Value) : frameOf ops a (fun _ => false) vs = a := by
  obtain ⟨tmps, defers⟩ := a
  have e : (frameOf ops ⟨tmps, defers⟩ (fun _ => false) vs).tmps = tmps := by
    apply Array.ext_getElem?
    intro t
    rw [frame_at]
    cases h : tmps[t]? with
    | none => simp
    | some x => cases h2 : ownOf ops t <;> simp
  have e2 : frameOf ops ⟨tmps, defers⟩ (fun _ => false) vs = ⟨(frameOf ops ⟨tmps, defers⟩ (fun _ => false) vs).tmps, defers⟩ := rfl
  rw [e2, e]
theorem frame_put (ops : Array Oper) (a : Act) (d : Nat → Bool) (vs : Nat → Value) (i : Nat) (o : Oper) (ho : ops[i]? = some o) (hd : ∀ x, o.dst = some x → ownOf ops x = some i) (hn : ∀ t, ownOf ops t = some i → o.dst = some t) (hdi : d i = false) (v : Value) :
    (frameOf ops a d vs).put o.dst v = frameOf ops a (fun j => if j = i then true else d j) (fun j => if j = i then v else vs j) := by
  have key : ((frameOf ops a d vs).put o.dst v).tmps = (frameOf ops a (fun j => if j = i then true else d j) (fun j => if j = i then v else vs j)).tmps := by
    apply Array.ext_getElem?
    intro t
    rw [frame_at]
    cases hx : o.dst with
    | none =>
      show (frameOf ops a d vs).tmps[t]? = _
      rw [frame_at]
      cases h2 : ownOf ops t with
      | none => rfl
      | some j =>
        have hj : j ≠ i := fun e => by have := hn t (e ▸ h2); rw [hx] at this; cases this
        simp [hj]
    | some x =>
      show ((frameOf ops a d vs).tmps.setIfInBounds x v)[t]? = _
      rw [Array.getElem?_setIfInBounds]
      by_cases e : x = t
      · subst e
        rw [if_pos rfl, hd x hx]
        have hsz : (frameOf ops a d vs).tmps.size = a.tmps.size := by
          have l : ∀ (f : Nat → Option Value) (xs : List Value) (t : Nat), (over f xs t).length = xs.length := by
            intro f xs
            induction xs with
            | nil => intro t; rfl
            | cons x xs ih => intro t; simp [over, ih]
          simp [frameOf, l]
        rw [hsz]
        by_cases hlt : x < a.tmps.size
        · simp [hlt]
        · simp [hlt]
      · rw [if_neg e, frame_at]
        cases h2 : ownOf ops t with
        | none => rfl
        | some j =>
          have hj : j ≠ i := fun e3 => by have := hn t (e3 ▸ h2); rw [hx] at this; injection this with this; exact e this
          simp [hj]
  have e1 : (frameOf ops a d vs).put o.dst v = ⟨((frameOf ops a d vs).put o.dst v).tmps, a.defers⟩ := by cases o.dst <;> rfl
  have e2 : frameOf ops a (fun j => if j = i then true else d j) (fun j => if j = i then v else vs j) = ⟨(frameOf ops a (fun j => if j = i then true else d j) (fun j => if j = i then v else vs j)).tmps, a.defers⟩ := rfl
  rw [e1, e2, key]
/-- Where two frames agree on what an operation looks at, it does the same. -/
theorem frame_same (ops : Array Oper) (a : Act) (d : Nat → Bool) (vs : Nat → Value) (o : Oper) (hs : noSel o.op = true) (h : ∀ t ∈ o.looksAt ops, ∀ i, ownOf ops t = some i → d i = true) :
    execOp (frameOf ops a d vs).eval o = execOp (frameOf ops a (fun _ => true) vs).eval o ∧ Region.wanted o (yielded ops (frameOf ops a d vs).tmps) = Region.wanted o (yielded ops (frameOf ops a (fun _ => true) vs).tmps) := by
  have key : ∀ t ∈ o.looksAt ops, (frameOf ops a d vs).tmps[t]? = (frameOf ops a (fun _ => true) vs).tmps[t]? := by
    intro t ht
    rw [frame_at, frame_at]
    cases h2 : ownOf ops t with
    | none => rfl
    | some i => simp [h t ht i h2]
  constructor
  · refine execOp_congr o (fun cs b e => by rw [e] at hs; cases hs) fun x hx => ?_
    cases x with
    | tmp t =>
      have := key t (List.mem_append_left _ (List.mem_filterMap.2 ⟨.tmp t, by simpa using hx, rfl⟩))
      show (frameOf ops a d vs).tmps.getD t undef = (frameOf ops a (fun _ => true) vs).tmps.getD t undef
      rw [Array.getD_eq_getD_getElem?, Array.getD_eq_getD_getElem?, this]
    | _ => rfl
  · unfold Region.wanted
    cases hg : o.guard with
    | none => rfl
    | some g =>
      obtain ⟨g, want⟩ := g
      simp only
      have : yielded ops (frameOf ops a d vs).tmps g = yielded ops (frameOf ops a (fun _ => true) vs).tmps g := by
        unfold yielded
        cases hb : (ops[g]?).bind (·.dst) with
        | none => rfl
        | some t =>
          have := key t (by unfold Oper.looksAt; rw [hg]; simp only; rw [hb]; simp)
          simp only [Option.bind_some, this]
      rw [this]

/-- What one operation leaves, in a frame in which all have been done. -/
def leaves (P : Program) (F : Value → World → Prop) (W : World) : Result Next → Prop
  | .ok (.value v) W' => F v W' ∧ Below W.heap.size W W'
  | .ok .skip W' => F undef W' ∧ Below W.heap.size W W'
  | .ok (.enter f args) W' => Calls P f args W' fun e W2 => ∃ v, e = .returned v ∧ F v W2 ∧ Below W.heap.size W W2
  | _ => False
def leavesOp (P : Program) (ops : Array Oper) (F : Value → World → Prop) (o : Oper) (a : Act) (W : World) : Prop :=
  if Region.wanted o (yielded ops a.tmps) = true then leaves P F W ((execOp a.eval o).run P W) else F undef W

theorem leaves_free {P : Program} {ops : Array Oper} {F : Value → World → Prop} {o : Oper} {a : Act} {W : World} (hg : o.guard = none) (h : leaves P F W ((execOp a.eval o).run P W)) : leavesOp P ops F o a W := by
  unfold leavesOp
  rw [if_pos (by simp [Region.wanted, hg])]
  exact h
/-- .. operation by operation. -/
def eachOp (P : Program) (ops : Array Oper) (F : Nat → Value → World → Prop) (lit : (Nat → Value) → Act) (w : World) : List Oper → Nat → Prop
  | [], _ => True
  | o :: rest, i => (∀ (vs : Nat → Value) W, Below w.heap.size w W → (∀ j ∈ depsOf ops i, F j (vs j) W) → leavesOp P ops (F i) o (lit vs) W) ∧ eachOp P ops F lit w rest (i + 1)
theorem eachOp_at {P : Program} {ops : Array Oper} {F : Nat → Value → World → Prop} {lit : (Nat → Value) → Act} {w : World} : ∀ (l : List Oper) (n : Nat), eachOp P ops F lit w l n → ∀ i o, l[i]? = some o → ∀ (vs : Nat → Value) W, Below w.heap.size w W → (∀ j ∈ depsOf ops (n + i), F j (vs j) W) → leavesOp P ops (F (n + i)) o (lit vs) W
  | [], n, _, i, o, h => by simp at h
  | x :: l, n, hx, 0, o, h => by
    simp at h
    subst h
    exact hx.1
  | x :: l, n, hx, i + 1, o, h => by
    have := eachOp_at l (n + 1) hx.2 i o (by simpa using h)
    rw [show n + 1 + i = n + (i + 1) by omega] at this
    exact this
end Go.Proofs.YtpinpipjlongaaaGreat

/- A region that draws its order and ends in stores: all ahead of them by a word that holds whatever has been done (as in Inv), then the stores one behind the other. Over any program. -/
namespace Go.Proofs.YtpinpipjlongaaaGreat
open Go.ChangeShapes Go.WideShapes Go.ChangeAt Go.RowKit
set_option linter.unusedVariables false

section
variable {P : Program} {ops : Array Oper} {Q : Exit → Act → World → Prop}
theorem wpAny_more : ∀ (f : Nat) (listed : Array Bool) (a : Act) (w : World), wpAny P .any ops Q f listed a w → wpAny P .any ops Q (f + 1) listed a w
  | 0, listed, a, w, h => ⟨fun _ => h.2, fun i hi => by rw [h.1] at hi; cases hi⟩
  | f + 1, listed, a, w, h => ⟨h.1, fun i hi => wpOp_mono (fun a' w' h' => wpAny_more f _ a' w' h') (h.2 i hi)⟩
theorem wpAny_least {f : Nat} {listed : Array Bool} {a : Act} {w : World} (h : wpAny P .any ops Q f listed a w) : ∀ d, wpAny P .any ops Q (f + d) listed a w
  | 0 => h
  | d + 1 => wpAny_more _ _ _ _ (wpAny_least h d)
end

/-- The first n are done, the others aren't. -/
def doneN (n m : Nat) : Array Bool := (List.replicate n true ++ List.replicate m false).toArray
def tailB (ops : Array Oper) (n : Nat) : Bool :=
  decide (n < ops.size) && Region.sinkB .any ops n && Region.chainB .any ops n && Region.seqB .any ops (ops.size - n) n (doneN n (ops.size - n))
theorem left_doneN (n m : Nat) : left (doneN n m) = m := by
  unfold left doneN
  simp [List.filter_append]

theorem frame_same2 (ops : Array Oper) (a : Act) (d d2 : Nat → Bool) (vs : Nat → Value) (o : Oper) (hs : noSel o.op = true) (h : ∀ t ∈ o.looksAt ops, ∀ i, ownOf ops t = some i → d i = true ∧ d2 i = true) :
    execOp (frameOf ops a d vs).eval o = execOp (frameOf ops a d2 vs).eval o ∧ Region.wanted o (yielded ops (frameOf ops a d vs).tmps) = Region.wanted o (yielded ops (frameOf ops a d2 vs).tmps) := by
  have h1 := frame_same ops a d vs o hs fun t ht i hi => (h t ht i hi).1
  have h2 := frame_same ops a d2 vs o hs fun t ht i hi => (h t ht i hi).2
  exact ⟨h1.1.trans h2.1.symm, h1.2.trans h2.2.symm⟩

theorem wp_region_tail {P : Program} {l : List Oper} {Q : Exit → Act → World → Prop} {id : Nat} {a : Act} {w : World} (n : Nat) (lit : (Nat → Value) → Act) (F : Nat → Value → World → Prop) (hm : P.follows .mixedOrders = true) (hr : relyB l.toArray = true) (ht : tailB l.toArray n = true)
    (hlit : ∀ vs, frameOf l.toArray a (fun i => decide (i < n)) vs = lit vs)
    (hst : ∀ i v W W', F i v W → Below W.heap.size W W' → F i v W') (hop : eachOp P l.toArray F lit w (l.take n) 0)
    (hend : ∀ (vs : Nat → Value) W, Below w.heap.size w W → (∀ i, i < n → F i (vs i) W) → wpList P l.toArray Q (l.drop n) (lit vs) W) : (Code.region id l.toArray true).wp P Q a w := by
  generalize hops : l.toArray = ops at *
  have hsz : ops.size = l.length := by rw [← hops]; simp
  unfold tailB at ht
  simp only [Bool.and_eq_true, decide_eq_true_eq] at ht
  obtain ⟨⟨⟨hn, hsink⟩, hchain⟩, hseq⟩ := ht
  have hR : ∀ i o, ops[i]? = some o → noSel o.op = true ∧ (∀ t ∈ o.looksAt ops, ∀ j, ownOf ops t = some j → j ∈ depsOf ops i) ∧ (∀ x, o.dst = some x → ownOf ops x = some i) ∧ ∀ j ∈ depsOf ops i, j < i := by
    intro i o ho
    have hi : i < ops.size := (Array.getElem?_eq_some_iff.1 ho).1
    unfold relyB at hr
    have h := List.all_eq_true.1 hr i (List.mem_range.2 hi)
    rw [ho] at h
    simp only [Bool.and_eq_true] at h
    refine ⟨h.1.1.1, fun t ht j hj => ?_, fun x hx => ?_, fun j hj => ?_⟩
    · have := List.all_eq_true.1 h.1.1.2 t ht
      rw [hj] at this
      simpa using this
    · have := h.1.2
      rw [hx] at this
      simpa using this
    · have := List.all_eq_true.1 h.2 j hj
      simpa using this
  have hN : ∀ t i o, ops[i]? = some o → ownOf ops t = some i → o.dst = some t := by
    intro t i o ho h
    have := List.find?_some h
    simp only [dstOf, ho, Option.bind_some, beq_iff_eq] at this
    exact this
  have hop2 : ∀ i o, ops[i]? = some o → i < n → ∀ (vs : Nat → Value) W, Below w.heap.size w W → (∀ j ∈ depsOf ops i, F j (vs j) W) → leavesOp P ops (F i) o (lit vs) W := by
    intro i o ho hi vs W hB hd
    have h1 : (l.take n)[i]? = some o := by
      rw [List.getElem?_take, if_pos hi]
      rw [← hops] at ho
      simpa using ho
    have := eachOp_at (l.take n) 0 hop i o h1 vs W hB (by rw [Nat.zero_add]; exact hd)
    rw [Nat.zero_add] at this
    exact this
  have key : ∀ (fuel : Nat) (listed : Array Bool) (a' : Act) (W : World), HeadInv .any ops n listed →
      (∃ vs : Nat → Value, a' = frameOf ops a (fun i => listed.getD i false) vs ∧ Below w.heap.size w W ∧ ∀ i, listed.getD i false = true → F i (vs i) W) →
      left listed ≤ fuel → wpAny P .any ops Q fuel listed a' W := by
    intro fuel
    induction fuel with
    | zero =>
      intro listed a' W hinv hI hf
      exfalso
      have h1 := hinv.tail n (Nat.le_refl _) hn
      refine left_none listed.toList n (by unfold left at hf; omega) ?_
      have hlt : n < listed.size := by rw [hinv.size]; exact hn
      rw [Array.getElem?_toList, Array.getElem?_eq_getElem hlt]
      simpa [hlt] using h1
    | succ fuel ih =>
      rintro listed a' W hinv ⟨vs, rfl, hB, hF⟩ hf
      by_cases hall : ∀ i, i < n → listed.getD i false = true
      · -- the tail
        have el : listed = doneN n (ops.size - n) := by
          apply Array.ext
          · rw [hinv.size]; simp [doneN]; omega
          · intro i h1 h2
            rw [hinv.size] at h1
            by_cases hi : i < n
            · have := hall i hi
              have hlt : i < listed.size := by rw [hinv.size]; exact h1
              simp only [doneN, List.getElem_toArray, List.getElem_append, List.length_replicate, hi, dite_true, List.getElem_replicate]
              simpa [hlt] using this
            · have := hinv.tail i (by omega) h1
              have hlt : i < listed.size := by rw [hinv.size]; exact h1
              simp only [doneN, List.getElem_toArray, List.getElem_append, List.length_replicate, hi, dite_false, List.getElem_replicate]
              simpa [hlt] using this
        have hd : frameOf ops a (fun i => listed.getD i false) vs = lit vs := by
          rw [← hlit vs]
          congr 1
          funext i
          by_cases hi : i < n
          · rw [hall i hi]; simp [hi]
          · simp only [hi, decide_false]
            by_cases h2 : i < ops.size
            · exact getD_both (hinv.tail i (by omega) h2)
            · have : listed.size ≤ i := by rw [hinv.size]; omega
              simp [Array.getElem?_eq_none this]
        have hw := hend vs W hB fun i hi => hF i (hall i hi)
        rw [hd]
        have hlen : (l.drop n).length = ops.size - n := by rw [List.length_drop, hsz]
        have h1 := wpAny_of_seq (P := P) (md := .any) (ops := ops) (Q' := Q) (l.drop n) n listed (lit vs) W (fun j => by rw [← hops]; simp [List.getElem?_drop]) (by rw [hlen, el]; exact hseq) hw
        rw [hlen] at h1
        have hle : ops.size - n ≤ fuel + 1 := by
          have := left_doneN n (ops.size - n)
          rw [el] at hf
          omega
        have h2 := wpAny_least h1 (fuel + 1 - (ops.size - n))
        rw [show ops.size - n + (fuel + 1 - (ops.size - n)) = fuel + 1 by omega] at h2
        exact h2
      · -- the head
        have hex : ∃ i, i < n ∧ listed.getD i false = false ∧ ∀ j, j < i → listed.getD j false = true := by
          have : ∀ m, m ≤ n → (∀ j, j < m → listed.getD j false = true) ∨ ∃ i, i < n ∧ listed.getD i false = false ∧ ∀ j, j < i → listed.getD j false = true := by
            intro m
            induction m with
            | zero => intro _; exact .inl fun j hj => by omega
            | succ m ihm =>
              intro hmn
              rcases ihm (by omega) with h | h
              · cases hl : listed.getD m false with
                | true =>
                  refine .inl fun j hj => ?_
                  by_cases e : j = m
                  · subst e; exact hl
                  · exact h j (by omega)
                | false => exact .inr ⟨m, by omega, hl, h⟩
              · exact .inr h
          rcases this n (Nat.le_refl _) with h | h
          · exact absurd h hall
          · exact h
        obtain ⟨i0, hi0, hu0, hbef⟩ := hex
        have hready : i0 ∈ Region.ready .any ops listed := by
          have hlt : i0 < listed.size := by rw [hinv.size]; omega
          have ho : ops[i0]? = some ops[i0] := Array.getElem?_eq_getElem (by omega)
          refine mem_ready.2 ⟨getD_in hlt hu0, _, ho, fun e he hb => hbef _ ?_⟩
          refine (hR i0 _ ho).2.2.2 _ ?_
          unfold depsOf
          rw [ho]
          simp only [List.mem_map, List.mem_filter]
          exact ⟨e, ⟨by simpa using he, hb⟩, rfl⟩
        refine ⟨fun e => (by rw [e] at hready; cases hready), fun i hi => ?_⟩
        have hin : i < n := by
          rcases Nat.lt_or_ge i n with h | h
          · exact h
          · exact absurd hi (tail_waits hsink hchain hn hinv (n - i0) i0 rfl hi0 (getD_in (by rw [hinv.size]; omega) hu0) i h)
        obtain ⟨hfr, o, ho, hdeps⟩ := mem_ready.1 hi
        obtain ⟨r1, r2, r3, r4⟩ := hR i o ho
        have hdep : ∀ j ∈ depsOf ops i, listed.getD j false = true := by
          intro j hj
          unfold depsOf at hj
          rw [ho] at hj
          simp only [List.mem_map, List.mem_filter] at hj
          obtain ⟨e, ⟨he, hb⟩, rfl⟩ := hj
          exact hdeps e (by simpa using he) hb
        have hdn : ∀ j ∈ depsOf ops i, j < n := fun j hj => by have := r4 j hj; omega
        obtain ⟨s1, s2⟩ := frame_same2 ops a (fun i => listed.getD i false) (fun i => decide (i < n)) vs o r1 fun t ht j hj => ⟨hdep j (r2 t ht j hj), by simpa using hdn j (r2 t ht j hj)⟩
        rw [hlit] at s1 s2
        have hl := hop2 i o ho hin vs W hB fun j hj => hF j (hdep j hj)
        have hif : listed.getD i false = false := getD_both hfr
        have hlt : i < ops.size := (Array.getElem?_eq_some_iff.1 ho).1
        have hfree := ready_free hi
        have hleft : left (listed.setIfInBounds i true) ≤ fuel := by
          have := left_set listed.toList i hfree
          unfold left at hf ⊢
          rw [Array.toList_setIfInBounds]
          omega
        have next : ∀ v W', F i v W' → Below W.heap.size W W' → wpAny P .any ops Q fuel (listed.setIfInBounds i true) ((frameOf ops a (fun i => listed.getD i false) vs).put o.dst v) W' := by
          intro v W' hf2 hb
          have eg : (fun j => (listed.setIfInBounds i true).getD j false) = fun j => if j = i then true else listed.getD j false := by
            funext j
            rw [Array.getD_eq_getD_getElem?, Array.getElem?_setIfInBounds, Array.getD_eq_getD_getElem?]
            by_cases e : j = i
            · subst e
              simp [hinv.size, hlt]
            · rw [if_neg (fun e2 => e e2.symm), if_neg e]
          refine ih _ _ _ (hinv.set hi hin) ⟨fun j => if j = i then v else vs j, ?_, hB.trans (hb.mono hB.size), fun j hj => ?_⟩ hleft
          · rw [eg]
            exact frame_put ops a _ vs i o ho r3 (fun t ht => hN t i o ho ht) hif v
          · have hj2 := congrFun eg j
            rw [hj2] at hj
            show F j (if j = i then v else vs j) W'
            by_cases e : j = i
            · subst e; rw [if_pos rfl]; exact hf2
            · rw [if_neg e] at hj ⊢
              exact hst j _ _ _ (hF j hj) hb
        unfold wpOp
        rw [ho]
        simp only
        unfold leavesOp at hl
        rw [s2]
        by_cases hw : Region.wanted o (yielded ops (lit vs).tmps) = true
        · rw [if_pos hw] at hl ⊢
          refine .inl ?_
          unfold Oper.wp
          rw [s1]
          generalize (execOp (lit vs).eval o).run P W = r at *
          cases r with
          | ok x W' =>
            cases x <;> simp only [leaves] at hl
            · rw [Oper.upon_value]; exact next _ _ hl.1 hl.2
            · rw [Oper.upon_skip]; exact next _ _ hl.1 hl.2
            · rw [Oper.upon_enter]
              refine hl.mono ?_
              rintro e W2 ⟨v, rfl, h1, h2⟩
              exact next _ _ h1 h2
          | halt x W' => simp only [leaves] at hl
        · rw [if_neg hw] at hl ⊢
          exact next _ _ hl (Below.refl _ _)
  refine wp_region_any hm ?_
  refine key _ _ _ _ ⟨by simp, fun j oj _ h => (by rw [getD_replicate_false] at h; cases h), fun t _ h2 => getD_in (by simpa using h2) (getD_replicate_false _ _)⟩ ⟨fun _ => undef, ?_, (Below.refl _ _).drew, fun i h => by rw [getD_replicate_false] at h; cases h⟩ ?_
  · have e : (fun i => (Array.replicate ops.size false).getD i false) = fun _ => false := by
      funext i
      exact getD_replicate_false _ _
    rw [e, frame_none]
  · unfold left
    exact Nat.le_trans (List.length_filter_le _ _) (by simp)

/-- Each operation leaves the value that a list names, whatever the world is. -/
def valT (l : List Value) (i : Nat) (v : Value) (_ : World) : Prop := v = l.getD i undef
theorem valT_stable {l : List Value} : ∀ i v W W', valT l i v W → Below W.heap.size W W' → valT l i v W' := fun _ _ _ _ h _ => h
/-- .. but for those that a second list names: of these it leaves what that says. -/
def mixT (ps : List (Nat × (Value → World → Prop))) (l : List Value) (i : Nat) (v : Value) (W : World) : Prop := match ps.lookup i with
  | some p => p v W
  | none => v = l.getD i undef
theorem mixT_stable {ps : List (Nat × (Value → World → Prop))} {l : List Value} (h : ∀ x ∈ ps, ∀ v W W', x.2 v W → Below W.heap.size W W' → x.2 v W') : ∀ i v W W', mixT ps l i v W → Below W.heap.size W W' → mixT ps l i v W' := by
  intro i v W W' hm hb
  unfold mixT at *
  cases hl : ps.lookup i with
  | none => rw [hl] at hm; exact hm
  | some p =>
    rw [hl] at hm
    have : (i, p) ∈ ps := by
      clear hm h
      induction ps with
      | nil => cases hl
      | cons x ps ih =>
        obtain ⟨k, q⟩ := x
        rw [List.lookup_cons] at hl
        by_cases e : i = k
        · subst e; simp at hl; subst hl; exact List.mem_cons_self
        · have e2 : (i == k) = false := by simpa using e
          rw [e2] at hl
          exact List.mem_cons_of_mem _ (ih hl)
    exact h _ this v W W' hm hb
end Go.Proofs.YtpinpipjlongaaaGreat

/- A region that draws its order, whose own operations only read and whose calls make memory and change none: one walk, in the order of the text. Over any program. -/
namespace Go.Proofs.YtpinpipjlongaaaGreat
open Go.ChangeShapes Go.WideShapes Go.ChangeAt Go.RowKit

/-- A world that has grown out of w: nothing that was there has changed. -/
structure Grw (w : World) where
  x : World
  ok : Below w.heap.size w x

def Grw.here (w : World) : Grw w := ⟨w, Below.refl _ _⟩
instance grwThere (w : World) : Nonempty (Grw w) := ⟨Grw.here w⟩
def Grw.more {w : World} (g : Grw w) {y : World} (h : Below g.x.heap.size g.x y) : Grw w := ⟨y, g.ok.trans (h.mono g.ok.size)⟩
theorem Grw.cell {w : World} (g : Grw w) {p : Addr} {v : Value} (h : w.cell? p = some v) : g.x.cell? p = some v :=
  (g.ok.cell (World.block_lt_of_cell? w _ h)).trans h

theorem below_of_drew {w y : World} (h : Below w.drew.heap.size w.drew y) : Below w.heap.size w y := ⟨h.os, h.tape, h.output, h.size, h.block⟩

/-- What stands behind the region is asked in every world that has grown. -/
theorem wp_region_grow {P : Program} {id : Nat} {Q : Exit → Act → World → Prop} {a : Act} {w : World} {l : List Oper} (hm : P.follows .mixedOrders = true) (hB : Region.lexB .any l.toArray = true)
    (h : wpQuiet P l.toArray (fun y => ∃ g : Grw w, y = g.x) (fun a' => ∀ y, (∃ g : Grw w, y = g.x) → Q .normal a' y) l a) : (Code.region id l.toArray true).wp P Q a w :=
  wp_region_quiet (C := fun y => ∃ g : Grw w, y = g.x) hm hB ⟨⟨w.drew, (Below.refl _ _).drew⟩, rfl⟩ (by simpa using h)

/-- A callee's contract, met in a world that has grown. -/
theorem grw_call {P : Program} {f : FuncId} {args : Array Value} {w : World} {g : Grw w} {v : Value}
    (h : Calls P f args g.x fun e y => e = .returned v ∧ Below g.x.heap.size g.x y) : Calls P f args g.x fun e y => e = .returned v ∧ ∃ g' : Grw w, y = g'.x :=
  h.mono fun _ _ ⟨he, hb⟩ => ⟨he, g.more hb, rfl⟩
theorem grw_same {P : Program} {f : FuncId} {args : Array Value} {w : World} {g : Grw w} {v : Value}
    (h : Calls P f args g.x fun e y => e = .returned v ∧ g.x = y) : Calls P f args g.x fun e y => e = .returned v ∧ ∃ g' : Grw w, y = g'.x :=
  h.mono fun _ _ ⟨he, hb⟩ => ⟨he, g, hb.symm⟩
end Go.Proofs.YtpinpipjlongaaaGreat

/- Right, Op by Op: as plain tests. -/
namespace Go.Proofs.YtpinpipjlongaaaGreat
set_option linter.unusedVariables false

theorem right_1 (d s t u a k pl p : Int) (hd : 0 ≤ d ∧ d ≤ 7) (hs : 0 ≤ s ∧ s ≤ 7) (ht : 0 ≤ t ∧ t ≤ 7) (hu : 0 ≤ u ∧ u ≤ 7) (ha : 0 ≤ a ∧ a ≤ 7) (k0 : 0 ≤ k) (k1 : k < 4294967296) :
    rightB ⟨1, d, s, t, u, a, k, pl⟩ p = (eqI ⟨1, d, 0, 0, 0, 0, k, 0⟩ ⟨1, d, s, t, u, a, k, pl⟩) := by
  rw [Bool.eq_iff_iff]
  simp [rightB, hsL, inB, lowI, endI, getI, clr, setI, isZ, eqI]
  omega
theorem right_2 (d s t u a k pl p : Int) (hd : 0 ≤ d ∧ d ≤ 7) (hs : 0 ≤ s ∧ s ≤ 7) (ht : 0 ≤ t ∧ t ≤ 7) (hu : 0 ≤ u ∧ u ≤ 7) (ha : 0 ≤ a ∧ a ≤ 7) (k0 : 0 ≤ k) (k1 : k < 4294967296) :
    rightB ⟨2, d, s, t, u, a, k, pl⟩ p = (eqI ⟨2, d, s, 0, 0, 0, 0, 0⟩ ⟨2, d, s, t, u, a, k, pl⟩) := by
  rw [Bool.eq_iff_iff]
  simp [rightB, hsL, inB, lowI, endI, getI, clr, setI, isZ, eqI]
  omega
theorem right_3 (d s t u a k pl p : Int) (hd : 0 ≤ d ∧ d ≤ 7) (hs : 0 ≤ s ∧ s ≤ 7) (ht : 0 ≤ t ∧ t ≤ 7) (hu : 0 ≤ u ∧ u ≤ 7) (ha : 0 ≤ a ∧ a ≤ 7) (k0 : 0 ≤ k) (k1 : k < 4294967296) :
    rightB ⟨3, d, s, t, u, a, k, pl⟩ p = (eqI ⟨3, d, s, 0, 0, 0, k, 0⟩ ⟨3, d, s, t, u, a, k, pl⟩) := by
  rw [Bool.eq_iff_iff]
  simp [rightB, hsL, inB, lowI, endI, getI, clr, setI, isZ, eqI]
  omega
theorem right_4 (d s t u a k pl p : Int) (hd : 0 ≤ d ∧ d ≤ 7) (hs : 0 ≤ s ∧ s ≤ 7) (ht : 0 ≤ t ∧ t ≤ 7) (hu : 0 ≤ u ∧ u ≤ 7) (ha : 0 ≤ a ∧ a ≤ 7) (k0 : 0 ≤ k) (k1 : k < 4294967296) :
    rightB ⟨4, d, s, t, u, a, k, pl⟩ p = (eqI ⟨4, d, s, 0, 0, 0, k, 0⟩ ⟨4, d, s, t, u, a, k, pl⟩) := by
  rw [Bool.eq_iff_iff]
  simp [rightB, hsL, inB, lowI, endI, getI, clr, setI, isZ, eqI]
  omega
theorem right_5 (d s t u a k pl p : Int) (hd : 0 ≤ d ∧ d ≤ 7) (hs : 0 ≤ s ∧ s ≤ 7) (ht : 0 ≤ t ∧ t ≤ 7) (hu : 0 ≤ u ∧ u ≤ 7) (ha : 0 ≤ a ∧ a ≤ 7) (k0 : 0 ≤ k) (k1 : k < 4294967296) :
    rightB ⟨5, d, s, t, u, a, k, pl⟩ p = (eqI ⟨5, d, s, 0, 0, 0, k, 0⟩ ⟨5, d, s, t, u, a, k, pl⟩ && decide (k ≤ 31)) := by
  rw [Bool.eq_iff_iff]
  simp [rightB, hsL, inB, lowI, endI, getI, clr, setI, isZ, eqI]
  omega
theorem right_6 (d s t u a k pl p : Int) (hd : 0 ≤ d ∧ d ≤ 7) (hs : 0 ≤ s ∧ s ≤ 7) (ht : 0 ≤ t ∧ t ≤ 7) (hu : 0 ≤ u ∧ u ≤ 7) (ha : 0 ≤ a ∧ a ≤ 7) (k0 : 0 ≤ k) (k1 : k < 4294967296) :
    rightB ⟨6, d, s, t, u, a, k, pl⟩ p = (eqI ⟨6, d, s, 0, 0, 0, k, 0⟩ ⟨6, d, s, t, u, a, k, pl⟩ && decide (k ≤ 31)) := by
  rw [Bool.eq_iff_iff]
  simp [rightB, hsL, inB, lowI, endI, getI, clr, setI, isZ, eqI]
  omega
theorem right_7 (d s t u a k pl p : Int) (hd : 0 ≤ d ∧ d ≤ 7) (hs : 0 ≤ s ∧ s ≤ 7) (ht : 0 ≤ t ∧ t ≤ 7) (hu : 0 ≤ u ∧ u ≤ 7) (ha : 0 ≤ a ∧ a ≤ 7) (k0 : 0 ≤ k) (k1 : k < 4294967296) :
    rightB ⟨7, d, s, t, u, a, k, pl⟩ p = (eqI ⟨7, d, s, t, 0, 0, 0, 0⟩ ⟨7, d, s, t, u, a, k, pl⟩) := by
  rw [Bool.eq_iff_iff]
  simp [rightB, hsL, inB, lowI, endI, getI, clr, setI, isZ, eqI]
  omega
theorem right_8 (d s t u a k pl p : Int) (hd : 0 ≤ d ∧ d ≤ 7) (hs : 0 ≤ s ∧ s ≤ 7) (ht : 0 ≤ t ∧ t ≤ 7) (hu : 0 ≤ u ∧ u ≤ 7) (ha : 0 ≤ a ∧ a ≤ 7) (k0 : 0 ≤ k) (k1 : k < 4294967296) :
    rightB ⟨8, d, s, t, u, a, k, pl⟩ p = (eqI ⟨8, 0, s, t, 0, 0, 0, pl⟩ ⟨8, d, s, t, u, a, k, pl⟩ && (decide (0 ≤ pl) && decide (pl < p))) := by
  rw [Bool.eq_iff_iff]
  simp [rightB, hsL, inB, lowI, endI, getI, clr, setI, isZ, eqI]
  omega
theorem right_9 (d s t u a k pl p : Int) (hd : 0 ≤ d ∧ d ≤ 7) (hs : 0 ≤ s ∧ s ≤ 7) (ht : 0 ≤ t ∧ t ≤ 7) (hu : 0 ≤ u ∧ u ≤ 7) (ha : 0 ≤ a ∧ a ≤ 7) (k0 : 0 ≤ k) (k1 : k < 4294967296) :
    rightB ⟨9, d, s, t, u, a, k, pl⟩ p = (eqI ⟨9, 0, s, t, 0, 0, 0, pl⟩ ⟨9, d, s, t, u, a, k, pl⟩ && (decide (0 ≤ pl) && decide (pl < p))) := by
  rw [Bool.eq_iff_iff]
  simp [rightB, hsL, inB, lowI, endI, getI, clr, setI, isZ, eqI]
  omega
theorem right_10 (d s t u a k pl p : Int) (hd : 0 ≤ d ∧ d ≤ 7) (hs : 0 ≤ s ∧ s ≤ 7) (ht : 0 ≤ t ∧ t ≤ 7) (hu : 0 ≤ u ∧ u ≤ 7) (ha : 0 ≤ a ∧ a ≤ 7) (k0 : 0 ≤ k) (k1 : k < 4294967296) :
    rightB ⟨10, d, s, t, u, a, k, pl⟩ p = (eqI ⟨10, 0, 0, 0, 0, 0, 0, pl⟩ ⟨10, d, s, t, u, a, k, pl⟩ && (decide (0 ≤ pl) && decide (pl < p))) := by
  rw [Bool.eq_iff_iff]
  simp [rightB, hsL, inB, lowI, endI, getI, clr, setI, isZ, eqI]
  omega
theorem right_11 (d s t u a k pl p : Int) (hd : 0 ≤ d ∧ d ≤ 7) (hs : 0 ≤ s ∧ s ≤ 7) (ht : 0 ≤ t ∧ t ≤ 7) (hu : 0 ≤ u ∧ u ≤ 7) (ha : 0 ≤ a ∧ a ≤ 7) (k0 : 0 ≤ k) (k1 : k < 4294967296) :
    rightB ⟨11, d, s, t, u, a, k, pl⟩ p = (eqI ⟨11, d, 0, 0, 0, 0, 0, 0⟩ ⟨11, d, s, t, u, a, k, pl⟩) := by
  rw [Bool.eq_iff_iff]
  simp [rightB, hsL, inB, lowI, endI, getI, clr, setI, isZ, eqI]
  omega
theorem right_22 (d s t u a k pl p : Int) (hd : 0 ≤ d ∧ d ≤ 7) (hs : 0 ≤ s ∧ s ≤ 7) (ht : 0 ≤ t ∧ t ≤ 7) (hu : 0 ≤ u ∧ u ≤ 7) (ha : 0 ≤ a ∧ a ≤ 7) (k0 : 0 ≤ k) (k1 : k < 4294967296) :
    rightB ⟨22, d, s, t, u, a, k, pl⟩ p = (eqI ⟨22, d, 0, 0, 0, 0, 0, 0⟩ ⟨22, d, s, t, u, a, k, pl⟩) := by
  rw [Bool.eq_iff_iff]
  simp [rightB, hsL, inB, lowI, endI, getI, clr, setI, isZ, eqI]
  omega
theorem right_12 (d s t u a k pl p : Int) (hd : 0 ≤ d ∧ d ≤ 7) (hs : 0 ≤ s ∧ s ≤ 7) (ht : 0 ≤ t ∧ t ≤ 7) (hu : 0 ≤ u ∧ u ≤ 7) (ha : 0 ≤ a ∧ a ≤ 7) (k0 : 0 ≤ k) (k1 : k < 4294967296) :
    rightB ⟨12, d, s, t, u, a, k, pl⟩ p = (eqI ⟨12, 0, 0, 0, 0, 0, k, 0⟩ ⟨12, d, s, t, u, a, k, pl⟩ && (decide (1 ≤ k) && decide (k ≤ 4))) := by
  rw [Bool.eq_iff_iff]
  simp [rightB, hsL, inB, lowI, endI, getI, clr, setI, isZ, eqI]
  omega
theorem right_13 (d s t u a k pl p : Int) (hd : 0 ≤ d ∧ d ≤ 7) (hs : 0 ≤ s ∧ s ≤ 7) (ht : 0 ≤ t ∧ t ≤ 7) (hu : 0 ≤ u ∧ u ≤ 7) (ha : 0 ≤ a ∧ a ≤ 7) (k0 : 0 ≤ k) (k1 : k < 4294967296) :
    rightB ⟨13, d, s, t, u, a, k, pl⟩ p = (eqI ⟨13, 0, 0, 0, 0, 0, k, 0⟩ ⟨13, d, s, t, u, a, k, pl⟩ && decide (k ≤ 3)) := by
  rw [Bool.eq_iff_iff]
  simp [rightB, hsL, inB, lowI, endI, getI, clr, setI, isZ, eqI]
  omega
theorem right_16 (d s t u a k pl p : Int) (hd : 0 ≤ d ∧ d ≤ 7) (hs : 0 ≤ s ∧ s ≤ 7) (ht : 0 ≤ t ∧ t ≤ 7) (hu : 0 ≤ u ∧ u ≤ 7) (ha : 0 ≤ a ∧ a ≤ 7) (k0 : 0 ≤ k) (k1 : k < 4294967296) :
    rightB ⟨16, d, s, t, u, a, k, pl⟩ p = (eqI ⟨16, d, s, 0, 0, a, 0, 0⟩ ⟨16, d, s, t, u, a, k, pl⟩) := by
  rw [Bool.eq_iff_iff]
  simp [rightB, hsL, inB, lowI, endI, getI, clr, setI, isZ, eqI]
  omega
theorem right_17 (d s t u a k pl p : Int) (hd : 0 ≤ d ∧ d ≤ 7) (hs : 0 ≤ s ∧ s ≤ 7) (ht : 0 ≤ t ∧ t ≤ 7) (hu : 0 ≤ u ∧ u ≤ 7) (ha : 0 ≤ a ∧ a ≤ 7) (k0 : 0 ≤ k) (k1 : k < 4294967296) :
    rightB ⟨17, d, s, t, u, a, k, pl⟩ p = (eqI ⟨17, 0, s, t, 0, a, 0, 0⟩ ⟨17, d, s, t, u, a, k, pl⟩) := by
  rw [Bool.eq_iff_iff]
  simp [rightB, hsL, inB, lowI, endI, getI, clr, setI, isZ, eqI]
  omega
theorem right_18 (d s t u a k pl p : Int) (hd : 0 ≤ d ∧ d ≤ 7) (hs : 0 ≤ s ∧ s ≤ 7) (ht : 0 ≤ t ∧ t ≤ 7) (hu : 0 ≤ u ∧ u ≤ 7) (ha : 0 ≤ a ∧ a ≤ 7) (k0 : 0 ≤ k) (k1 : k < 4294967296) :
    rightB ⟨18, d, s, t, u, a, k, pl⟩ p = (eqI ⟨18, d, s, t, 0, a, 0, 0⟩ ⟨18, d, s, t, u, a, k, pl⟩) := by
  rw [Bool.eq_iff_iff]
  simp [rightB, hsL, inB, lowI, endI, getI, clr, setI, isZ, eqI]
  omega
theorem right_19 (d s t u a k pl p : Int) (hd : 0 ≤ d ∧ d ≤ 7) (hs : 0 ≤ s ∧ s ≤ 7) (ht : 0 ≤ t ∧ t ≤ 7) (hu : 0 ≤ u ∧ u ≤ 7) (ha : 0 ≤ a ∧ a ≤ 7) (k0 : 0 ≤ k) (k1 : k < 4294967296) :
    rightB ⟨19, d, s, t, u, a, k, pl⟩ p = (eqI ⟨19, d, s, t, u, a, 0, 0⟩ ⟨19, d, s, t, u, a, k, pl⟩) := by
  rw [Bool.eq_iff_iff]
  simp [rightB, hsL, inB, lowI, endI, getI, clr, setI, isZ, eqI]
  omega
theorem right_20 (d s t u a k pl p : Int) (hd : 0 ≤ d ∧ d ≤ 7) (hs : 0 ≤ s ∧ s ≤ 7) (ht : 0 ≤ t ∧ t ≤ 7) (hu : 0 ≤ u ∧ u ≤ 7) (ha : 0 ≤ a ∧ a ≤ 7) (k0 : 0 ≤ k) (k1 : k < 4294967296) :
    rightB ⟨20, d, s, t, u, a, k, pl⟩ p = (eqI ⟨20, d, s, 0, 0, a, k, 0⟩ ⟨20, d, s, t, u, a, k, pl⟩) := by
  rw [Bool.eq_iff_iff]
  simp [rightB, hsL, inB, lowI, endI, getI, clr, setI, isZ, eqI]
  omega
theorem right_21 (d s t u a k pl p : Int) (hd : 0 ≤ d ∧ d ≤ 7) (hs : 0 ≤ s ∧ s ≤ 7) (ht : 0 ≤ t ∧ t ≤ 7) (hu : 0 ≤ u ∧ u ≤ 7) (ha : 0 ≤ a ∧ a ≤ 7) (k0 : 0 ≤ k) (k1 : k < 4294967296) :
    rightB ⟨21, d, s, t, u, a, k, pl⟩ p = (eqI ⟨21, d, s, t, 0, a, k, pl⟩ ⟨21, d, s, t, u, a, k, pl⟩ && (decide (k ≤ 1) && (decide (-1 ≤ pl) && (decide (pl = -1) || decide (pl < p))))) := by
  rw [Bool.eq_iff_iff]
  simp [rightB, hsL, inB, lowI, endI, getI, clr, setI, isZ, eqI]
  split <;> omega
theorem right_23 (d s t u a k pl p : Int) (hd : 0 ≤ d ∧ d ≤ 7) (hs : 0 ≤ s ∧ s ≤ 7) (ht : 0 ≤ t ∧ t ≤ 7) (hu : 0 ≤ u ∧ u ≤ 7) (ha : 0 ≤ a ∧ a ≤ 7) (k0 : 0 ≤ k) (k1 : k < 4294967296) :
    rightB ⟨23, d, s, t, u, a, k, pl⟩ p = (eqI ⟨23, 0, s, 0, 0, 0, 0, 0⟩ ⟨23, d, s, t, u, a, k, pl⟩) := by
  rw [Bool.eq_iff_iff]
  simp [rightB, hsL, inB, lowI, endI, getI, clr, setI, isZ, eqI]
  omega

/-- What is right has registers, and an area. -/
theorem right_regs (i : Ins) (p : Int) (h : rightB i p = true) : (0 ≤ i.d ∧ i.d ≤ 7) ∧ (0 ≤ i.s ∧ i.s ≤ 7) ∧ (0 ≤ i.t ∧ i.t ≤ 7) ∧ (0 ≤ i.u ∧ i.u ≤ 7) ∧ (0 ≤ i.a ∧ i.a ≤ 7) := by
  obtain ⟨op, d, s, t, u, a, k, pl⟩ := i
  rcases op_cases op with rfl | rfl | rfl | rfl | rfl | rfl | rfl | rfl | rfl | rfl | rfl | rfl | rfl | rfl | rfl | rfl | rfl | rfl | rfl | rfl | rfl | hn
  rotate_right
  · have := hs_none hn
    unfold rightB at h
    simp only [this.1] at h
    cases h
  all_goals
    simp [rightB, hsL, inB, lowI, endI, getI, clr, setI, isZ] at h
    simp only
    omega
end Go.Proofs.YtpinpipjlongaaaGreat

/- Contracts of the leaf functions of inst: form, bounds, get, set. -/
namespace Go.Proofs.YtpinpipjlongaaaGreat
open Go.ChangeShapes Go.WideShapes Go.ChangeAt Go.RowKit
set_option linter.unusedVariables false

/-- An instruction as a value. -/
def iv (i : Ins) : Value := .agg #[.int .i64 i.op, .int .i64 i.d, .int .i64 i.s, .int .i64 i.t, .int .i64 i.u, .int .i64 i.a, .int .u32 i.k, .int .i64 i.pl]
/-- A list of bytes as a string. -/
def bs (l : List UInt8) : Value := .string ⟨l.toArray⟩

theorem ret2_str (a b c d : List UInt8) (h1 : a = c) (h2 : b = d) : Ending.returned (.tuple #[.string ⟨a.toArray⟩, .string ⟨b.toArray⟩]) = .returned (.tuple #[bs c, bs d]) := by rw [h1, h2]; rfl

theorem cMemForm (op : Int) (h : op < 1 ∨ 13 < op) (w : World) :
    Calls Tryz.prog 94 #[.int .i64 op] w fun e w' => e = .returned (.tuple #[bs (nmL op), bs (hsL op)]) ∧ w = w' := by
  rcases op_cases op with rfl | rfl | rfl | rfl | rfl | rfl | rfl | rfl | rfl | rfl | rfl | rfl | rfl | rfl | rfl | rfl | rfl | rfl | rfl | rfl | rfl | hn
  rotate_right
  · obtain ⟨n1, n2, n3, n4, n5, n6, n7, n8, n9, n10, n11, n12, n13, n16, n17, n18, n19, n20, n21, n22, n23⟩ := hn
    have en : nmL op = [] := by unfold nmL; simp [*]
    have eh : hsL op = [] := by unfold hsL; simp [*]
    have E := Lib.hid en
    have F := Lib.hid eh
    clear en eh
    have b16 : (op == 16) = false := by simpa using n16
    have b17 : (op == 17) = false := by simpa using n17
    have b18 : (op == 18) = false := by simpa using n18
    have b19 : (op == 19) = false := by simpa using n19
    have b20 : (op == 20) = false := by simpa using n20
    have b21 : (op == 21) = false := by simpa using n21
    have b22 : (op == 22) = false := by simpa using n22
    have b23 : (op == 23) = false := by simpa using n23
    clear n1 n2 n3 n4 n5 n6 n7 n8 n9 n10 n11 n12 n13 n16 n17 n18 n19 n20 n21 n22 n23
    go_enter Tryz.func94, Tryz.ntmps94
    go_wp2
    go_ret2
    exact ⟨ret2_str _ _ _ _ E.out.symm F.out.symm, rfl⟩
  all_goals first | (exfalso; omega) | skip
  all_goals
    go_enter Tryz.func94, Tryz.ntmps94
    go_wp2
    go_ret2
    exact ⟨rfl, rfl⟩

theorem cForm (op : Int) (w : World) :
    Calls Tryz.prog 67 #[.int .i64 op] w fun e w' => e = .returned (.tuple #[bs (nmL op), bs (hsL op)]) ∧ w = w' := by
  by_cases h : op < 1 ∨ 13 < op
  · have hm := Lib.hid (cMemForm op h w)
    have b1 : (op == 1) = false := by simp; omega
    have b2 : (op == 2) = false := by simp; omega
    have b3 : (op == 3) = false := by simp; omega
    have b4 : (op == 4) = false := by simp; omega
    have b5 : (op == 5) = false := by simp; omega
    have b6 : (op == 6) = false := by simp; omega
    have b7 : (op == 7) = false := by simp; omega
    have b8 : (op == 8) = false := by simp; omega
    have b9 : (op == 9) = false := by simp; omega
    have b10 : (op == 10) = false := by simp; omega
    have b11 : (op == 11) = false := by simp; omega
    have b12 : (op == 12) = false := by simp; omega
    have b13 : (op == 13) = false := by simp; omega
    go_enter Tryz.func67, Tryz.ntmps67
    go_wp2_with fail
    refine hm.out.mono ?_
    rintro e w' ⟨rfl, rfl⟩
    go_wp2
    go_ret2
    exact ⟨rfl, rfl⟩
  · rcases op_cases op with rfl | rfl | rfl | rfl | rfl | rfl | rfl | rfl | rfl | rfl | rfl | rfl | rfl | rfl | rfl | rfl | rfl | rfl | rfl | rfl | rfl | hn
    rotate_right
    · exfalso; omega
    all_goals first | (exfalso; omega) | skip
    all_goals
      go_enter Tryz.func67, Tryz.ntmps67
      go_wp2
      go_ret2
      exact ⟨rfl, rfl⟩

theorem cBoundsK (op : Int) (p : Int) (w : World) :
    Calls Tryz.prog 95 #[.int .i64 op] w fun e w' => e = .returned (.tuple #[.int .i64 (lowI op 75), .int .i64 (endI op 75 p)]) ∧ w = w' := by
  by_cases h : op = 5 ∨ op = 6 ∨ op = 12 ∨ op = 13 ∨ op = 21
  · rcases h with rfl | rfl | rfl | rfl | rfl
    all_goals
      go_enter Tryz.func95, Tryz.ntmps95
      go_wp2
      go_ret2
      exact ⟨rfl, rfl⟩
  · have b5 : (op == 5) = false := by simp; omega
    have b6 : (op == 6) = false := by simp; omega
    have b12 : (op == 12) = false := by simp; omega
    have b13 : (op == 13) = false := by simp; omega
    have b21 : (op == 21) = false := by simp; omega
    have E := Lib.hid (show lowI op 75 = 0 by unfold lowI; simp; omega)
    have F := Lib.hid (show endI op 75 p = 4294967296 by unfold endI; simp; omega)
    go_enter Tryz.func95, Tryz.ntmps95
    go_wp2
    go_ret2
    exact ⟨by rw [E.out, F.out]; rfl, rfl⟩

theorem cBounds (op c p : Int) (hc : Ltr c) (w : World) :
    Calls Tryz.prog 68 #[.int .i64 op, .int .u8 c, .int .i64 p] w fun e w' => e = .returned (.tuple #[.int .i64 (lowI op c), .int .i64 (endI op c p)]) ∧ w = w' := by
  rcases hc with rfl | rfl | rfl | rfl | rfl | rfl | rfl
  rotate_right
  · by_cases h : op = 21
    · subst h
      by_cases hp : p < 0
      · have E := Lib.hid (show endI 21 80 p = 0 by unfold endI; simp [hp])
        have hq : ¬ (0 : Int) ≤ p := by omega
        go_enter Tryz.func68, Tryz.ntmps68
        go_wp2
        go_ret2
        exact ⟨by rw [E.out]; rfl, rfl⟩
      · have E := Lib.hid (show endI 21 80 p = p by unfold endI; simp; omega)
        have hq : (0 : Int) ≤ p := by omega
        go_enter Tryz.func68, Tryz.ntmps68
        go_wp2
        go_ret2
        exact ⟨by rw [E.out]; rfl, rfl⟩
    · have b21 : (op == 21) = false := by simpa using h
      have E := Lib.hid (show endI op 80 p = p by unfold endI; simp [h])
      have F := Lib.hid (show lowI op 80 = 0 by unfold lowI; simp [h])
      go_enter Tryz.func68, Tryz.ntmps68
      go_wp2
      go_ret2
      exact ⟨by rw [E.out, F.out]; rfl, rfl⟩
  rotate_right
  · have H := Lib.hid (cBoundsK op p w)
    go_enter Tryz.func68, Tryz.ntmps68
    go_wp2_with fail
    refine H.out.mono ?_
    rintro e w' ⟨rfl, rfl⟩
    go_wp2
    go_ret2
    exact ⟨rfl, rfl⟩
  all_goals
    go_enter Tryz.func68, Tryz.ntmps68
    go_wp2
    go_ret2
    exact ⟨rfl, rfl⟩

theorem cGet (i : Ins) (c : Int) (hc : Ltr c) (k0 : 0 ≤ i.k) (k1 : i.k < 4294967296) (w : World) :
    Calls Tryz.prog 69 #[iv i, .int .u8 c] w fun e w' => e = .returned (.int .i64 (getI i c)) ∧ Below w.heap.size w w' := by
  obtain ⟨op, d, s, t, u, a, k, pl⟩ := i
  simp only at k0 k1
  unfold iv
  rcases hc with rfl | rfl | rfl | rfl | rfl | rfl | rfl
  all_goals
    go_enter Tryz.func69, Tryz.ntmps69
    go_wp2
    go_ret
    exact ⟨rfl, (Below.refl _ _).alloc (Nat.le_refl _) _⟩

theorem cSet (i : Ins) (c v : Int) (hc : Ltr c) (w : World) :
    Calls Tryz.prog 70 #[iv i, .int .u8 c, .int .i64 v] w fun e w' => e = .returned (iv (setI i c v)) ∧ Below w.heap.size w w' := by
  obtain ⟨op, d, s, t, u, a, k, pl⟩ := i
  unfold iv
  rcases hc with rfl | rfl | rfl | rfl | rfl | rfl | rfl
  · go_enter Tryz.func70, Tryz.ntmps70
    go_wp2
    refine bodyPost_ret (v := .agg #[.int .i64 op, .int .i64 v, .int .i64 s, .int .i64 t, .int .i64 u, .int .i64 a, .int .u32 k, .int .i64 pl]) (by simp [results, Tryz.results70, go_sem]) rfl ⟨rfl, ?_⟩
    exact ((Below.refl _ _).alloc (Nat.le_refl _) _).alloc (by simp) _
  · go_enter Tryz.func70, Tryz.ntmps70
    go_wp2
    refine bodyPost_ret (v := .agg #[.int .i64 op, .int .i64 d, .int .i64 v, .int .i64 t, .int .i64 u, .int .i64 a, .int .u32 k, .int .i64 pl]) (by simp [results, Tryz.results70, go_sem]) rfl ⟨rfl, ?_⟩
    exact ((Below.refl _ _).alloc (Nat.le_refl _) _).alloc (by simp) _
  · go_enter Tryz.func70, Tryz.ntmps70
    go_wp2
    refine bodyPost_ret (v := .agg #[.int .i64 op, .int .i64 d, .int .i64 s, .int .i64 v, .int .i64 u, .int .i64 a, .int .u32 k, .int .i64 pl]) (by simp [results, Tryz.results70, go_sem]) rfl ⟨rfl, ?_⟩
    exact ((Below.refl _ _).alloc (Nat.le_refl _) _).alloc (by simp) _
  · go_enter Tryz.func70, Tryz.ntmps70
    go_wp2
    refine bodyPost_ret (v := .agg #[.int .i64 op, .int .i64 d, .int .i64 s, .int .i64 t, .int .i64 v, .int .i64 a, .int .u32 k, .int .i64 pl]) (by simp [results, Tryz.results70, go_sem]) rfl ⟨rfl, ?_⟩
    exact ((Below.refl _ _).alloc (Nat.le_refl _) _).alloc (by simp) _
  · go_enter Tryz.func70, Tryz.ntmps70
    go_wp2
    refine bodyPost_ret (v := .agg #[.int .i64 op, .int .i64 d, .int .i64 s, .int .i64 t, .int .i64 u, .int .i64 v, .int .u32 k, .int .i64 pl]) (by simp [results, Tryz.results70, go_sem]) rfl ⟨rfl, ?_⟩
    exact ((Below.refl _ _).alloc (Nat.le_refl _) _).alloc (by simp) _
  · go_enter Tryz.func70, Tryz.ntmps70
    go_wp2
    refine bodyPost_ret (v := .agg #[.int .i64 op, .int .i64 d, .int .i64 s, .int .i64 t, .int .i64 u, .int .i64 a, .int .u32 (v % 4294967296), .int .i64 pl]) (by simp [results, Tryz.results70, go_sem]) rfl ⟨rfl, ?_⟩
    exact ((Below.refl _ _).alloc (Nat.le_refl _) _).alloc (by simp) _
  · go_enter Tryz.func70, Tryz.ntmps70
    go_wp2
    refine bodyPost_ret (v := .agg #[.int .i64 op, .int .i64 d, .int .i64 s, .int .i64 t, .int .i64 u, .int .i64 a, .int .u32 k, .int .i64 v]) (by simp [results, Tryz.results70, go_sem]) rfl ⟨rfl, ?_⟩
    exact ((Below.refl _ _).alloc (Nat.le_refl _) _).alloc (by simp) _

/-- One of the memory. -/
def memB (op : Int) : Bool := decide (16 ≤ op) && decide (op ≤ 23)

theorem cMemory (i : Ins) (w : World) :
    Calls Tryz.prog 51 #[iv i] w fun e w' => e = .returned (.bool (memB i.op)) ∧ Below w.heap.size w w' := by
  obtain ⟨op, d, s, t, u, a, k, pl⟩ := i
  unfold iv
  by_cases h : 16 ≤ op
  · by_cases h2 : op ≤ 23
    · have E := Lib.hid (show memB op = true by simp [memB, h, h2])
      go_enter Tryz.func51, Tryz.ntmps51
      go_wp2
      go_ret
      exact ⟨by rw [E.out]; rfl, (Below.refl _ _).alloc (Nat.le_refl _) _⟩
    · have E := Lib.hid (show memB op = false by simp [memB, h2])
      have h3 : decide (op ≤ 23) = false := by simp [h2]
      go_enter Tryz.func51, Tryz.ntmps51
      go_wp2
      go_ret
      exact ⟨by rw [E.out]; rfl, (Below.refl _ _).alloc (Nat.le_refl _) _⟩
  · have E := Lib.hid (show memB op = false by simp [memB, h])
    have h3 : decide (op ≥ 16) = false := by simp; omega
    go_enter Tryz.func51, Tryz.ntmps51
    go_wp2
    go_ret
    exact ⟨by rw [E.out]; rfl, (Below.refl _ _).alloc (Nat.le_refl _) _⟩

end Go.Proofs.YtpinpipjlongaaaGreat

/- What each function of layer 2 (cell) returns, and what cells are then: one contract a function, for every list of words of 32 bits, every address that there is, every word. -/
namespace Go.Proofs.YtpinpipjlongaaaGreat
set_option maxRecDepth 100000
open Go.ChangeShapes Go.WideShapes Go.ChangeAt Go.RowKit

/-- What SwapUint32 does where a number is. -/
theorem run_call_swap {P : Program} {f : FuncId} {fn : Func} (hf : P.funcs[f]? = some fn) (hname : (fn.name == "runtime.NumGoroutine") = false) (hb : fn.body.isNone = true) (hn : Extern.findNext fn = none) (k : IntKind)
    (he : Extern.find fn = some (Extern.Atomic.swapT (.int k))) {a : Addr} {x y : Int} {w : World} (hc : w.cell? a = some (.int k x)) (hz : w.frozen? a = false) :
    (callFunc f #[.pointer (some a), .int k y]).run P w = .ok (.value (.int k x)) (w.setCell a (.int k y)) := by
  rw [run_callFunc_extern hf hname hb hn he]
  change (Sem.run P (asAddr (.pointer (some a)) >>= fun b => Extern.Atomic.read (.int k) b >>= fun old => store b (.int k y) .atomic >>= fun _ => pure old) w).andThen _ = _
  simp [Extern.Atomic.read, asAddr, hc, hz, run_store P w a (.int k y) .atomic rfl, Result.andThen]

/-- Cells of the words xs: the struct is block p, the words are block g. -/
structure Cel (w : World) (p g : Nat) (xs : List Int) : Prop where
  ptr : Bk w p 153 #[.slice (some ⟨g, 0, none⟩) xs.length xs.length]
  row : Bk w g 157 (words xs)
  rng : U32s xs
  few : xs.length ≤ 8192

theorem Cel.ne {w : World} {p g : Nat} {xs : List Int} (h : Cel w p g xs) : p ≠ g := h.ptr.unlike h.row (by decide)
theorem Cel.alloc {w : World} {p g : Nat} {xs : List Int} (h : Cel w p g xs) (o : Obj) : Cel (w.alloc o) p g xs := ⟨h.ptr.alloc o, h.row.alloc o, h.rng, h.few⟩
theorem Cel.drewN {w : World} {p g : Nat} {xs : List Int} (h : Cel w p g xs) (n : Nat) : Cel (w.drewN n) p g xs := ⟨h.ptr, h.row, h.rng, h.few⟩
theorem Cel.kept {w w' : World} {p g : Nat} {xs : List Int} (h : Cel w p g xs) {r : Option Nat} (hg : w.grownBy w' r) (h1 : some p ≠ r) (h2 : some g ≠ r) : Cel w' p g xs :=
  ⟨h.ptr.grown hg h1, h.row.grown hg h2, h.rng, h.few⟩
theorem Cel.put {w : World} {p g : Nat} {xs : List Int} (h : Cel w p g xs) (i : Nat) (v : Int) (hv : 0 ≤ v ∧ v < 4294967296) :
    Cel (w.setCell ⟨g, i, none⟩ (.int .u32 v)) p g (xs.set i v) := by
  refine ⟨?_, ?_, h.rng.set i v hv, by simpa using h.few⟩
  · simpa using h.ptr.off (p := ⟨g, i, none⟩) h.ne (.int .u32 v)
  · simpa [words_set] using h.row.put i (.int .u32 v)

section
variable {w : World} {p g : Nat} {xs : List Int}
theorem Cel.c0 (h : Cel w p g xs) : w.cell? ⟨p, 0, none⟩ = some (.slice (some ⟨g, 0, none⟩) xs.length xs.length) := by rw [h.ptr.cell]; rfl
theorem Cel.at_ (h : Cel w p g xs) {i : Nat} (hi : i < xs.length) : w.cell? ⟨g, i, none⟩ = some (.int .u32 (nth xs i)) := by rw [h.row.cell, words_at xs i hi]

theorem cHas (h : Cel w p g xs) (a : Nat) (ha : a < xs.length) :
    Calls Tryz.prog 71 #[.pointer (some ⟨p, 0, none⟩), .int .i64 a] w fun e w' => e = .returned (.bool true) ∧ w = w' := by
  have h0 := h.c0
  have hf := h.few
  go_enter Tryz.func71, Tryz.ntmps71
  go_wp2
  go_ret
  exact ⟨rfl, rfl⟩

theorem aLoad (b i : Nat) (x : Int) (w : World) (hc : w.cell? ⟨b, i, none⟩ = some (.int .u32 x)) :
    Calls Tryz.prog 92 #[.pointer (some ⟨b, i, none⟩)] w fun e w' => e = .returned (.int .u32 x) ∧ w = w' := by
  have hl := run_call_load (P := Tryz.prog) Tryz.func105 (by kernel_rfl) (by kernel_rfl) (by kernel_rfl) .u32 (by kernel_rfl) hc
  go_enter Tryz.func92, Tryz.ntmps92
  go_wp2
  go_ret
  exact ⟨rfl, rfl⟩

theorem aStore (b i : Nat) (x y : Int) (w : World) (hc : w.cell? ⟨b, i, none⟩ = some (.int .u32 x)) (hz : w.frozen? ⟨b, i, none⟩ = false) :
    Calls Tryz.prog 72 #[.pointer (some ⟨b, i, none⟩), .int .u32 y] w fun e w' => e = .returned (.tuple #[]) ∧ w' = w.setCell ⟨b, i, none⟩ (.int .u32 y) := by
  have hl := run_call_store (P := Tryz.prog) Tryz.func96 (by kernel_rfl) (by kernel_rfl) (by kernel_rfl) (by kernel_rfl) (k := .u32) (y := y) hc hz
  go_enter Tryz.func72, Tryz.ntmps72
  go_wp2
  go_end0
  exact ⟨rfl, rfl⟩

theorem aSwap (b i : Nat) (x y : Int) (w : World) (hc : w.cell? ⟨b, i, none⟩ = some (.int .u32 x)) (hz : w.frozen? ⟨b, i, none⟩ = false) :
    Calls Tryz.prog 102 #[.pointer (some ⟨b, i, none⟩), .int .u32 y] w fun e w' => e = .returned (.int .u32 x) ∧ w' = w.setCell ⟨b, i, none⟩ (.int .u32 y) := by
  have hl := run_call_swap (P := Tryz.prog) Tryz.func107 (by kernel_rfl) (by kernel_rfl) (by kernel_rfl) .u32 (by kernel_rfl) (y := y) hc hz
  go_enter Tryz.func102, Tryz.ntmps102
  go_wp2
  go_ret
  exact ⟨rfl, rfl⟩

theorem aCasHit (b i : Nat) (x y : Int) (w : World) (hc : w.cell? ⟨b, i, none⟩ = some (.int .u32 x)) (hz : w.frozen? ⟨b, i, none⟩ = false) :
    Calls Tryz.prog 103 #[.pointer (some ⟨b, i, none⟩), .int .u32 x, .int .u32 y] w fun e w' => e = .returned (.bool true) ∧ w' = w.setCell ⟨b, i, none⟩ (.int .u32 y) := by
  have hl := run_call_cas_hit (P := Tryz.prog) Tryz.func108 (by kernel_rfl) (by kernel_rfl) (by kernel_rfl) .u32 (by kernel_rfl) (y := y) hc hz
  go_enter Tryz.func103, Tryz.ntmps103
  go_wp2
  go_ret
  exact ⟨rfl, rfl⟩

theorem aCasMiss (b i : Nat) (x o y : Int) (hne : ¬ x = o) (w : World) (hc : w.cell? ⟨b, i, none⟩ = some (.int .u32 x)) (hz : w.frozen? ⟨b, i, none⟩ = false) :
    Calls Tryz.prog 103 #[.pointer (some ⟨b, i, none⟩), .int .u32 o, .int .u32 y] w fun e w' => e = .returned (.bool false) ∧ w = w' := by
  have hl := run_call_cas_miss (P := Tryz.prog) Tryz.func108 (by kernel_rfl) (by kernel_rfl) (by kernel_rfl) .u32 (by kernel_rfl) (y := y) hc hz hne
  go_enter Tryz.func103, Tryz.ntmps103
  go_wp2
  go_ret
  exact ⟨rfl, rfl⟩

theorem add_u32 (x y : Int) (w : World) : (Op.intArith .add .u32 x y).run Tryz.prog w = .ok (.int .u32 ((x + y) % 4294967296)) w := by
  simp [Op.intArith, IntKind.wrap, IntKind.signed, IntKind.bits]

theorem aAdd (b i : Nat) (x y : Int) (w : World) (hc : w.cell? ⟨b, i, none⟩ = some (.int .u32 x)) (hz : w.frozen? ⟨b, i, none⟩ = false) :
    Calls Tryz.prog 104 #[.pointer (some ⟨b, i, none⟩), .int .u32 y] w fun e w' => e = .returned (.int .u32 ((x + y) % 4294967296)) ∧ w' = w.setCell ⟨b, i, none⟩ (.int .u32 ((x + y) % 4294967296)) := by
  have hl := run_call_add (P := Tryz.prog) Tryz.func109 (by kernel_rfl) (by kernel_rfl) (by kernel_rfl) .u32 (by kernel_rfl) (y := y) hc hz (add_u32 x y w)
  go_enter Tryz.func104, Tryz.ntmps104
  go_wp2
  go_ret
  exact ⟨rfl, rfl⟩

def two32 (n : Int) : Int := n % 4294967296
theorem two32_b (n : Int) : 0 ≤ two32 n ∧ two32 n < 4294967296 := by unfold two32; omega

theorem cLoad (h : Cel w p g xs) (a : Nat) (ha : a < xs.length) :
    Calls Tryz.prog 83 #[.pointer (some ⟨p, 0, none⟩), .int .i64 a] w fun e w' => e = .returned (.int .u32 (nth xs a)) ∧ w = w' := by
  have h0 := h.c0
  have h1 := h.at_ ha
  have hf := h.few
  go_enter Tryz.func83, Tryz.ntmps83
  go_wp2_with fail
  refine (cHas h a ha).mono ?_
  rintro e w' ⟨rfl, rfl⟩
  go_wp2_with fail
  refine (aLoad g a (nth xs a) w h1).mono ?_
  rintro e w' ⟨rfl, rfl⟩
  go_wp2
  go_ret
  exact ⟨rfl, rfl⟩

/-- Behind an access: what it tells, what the words are; nothing else has changed. -/
def Did (w : World) (p g : Nat) (v : Value) (ys : List Int) (e : Ending) (w' : World) : Prop := e = .returned v ∧ Cel w' p g ys ∧ Only w w' g

theorem cStore (h : Cel w p g xs) (a : Nat) (ha : a < xs.length) (v : Int) (hv : 0 ≤ v ∧ v < 4294967296) :
    Calls Tryz.prog 47 #[.pointer (some ⟨p, 0, none⟩), .int .i64 a, .int .u32 v] w (Did w p g (.tuple #[]) (xs.set a v)) := by
  have h0 := h.c0
  have h1 := h.at_ ha
  have hf := h.few
  go_enter Tryz.func47, Tryz.ntmps47
  go_wp2_with fail
  refine (cHas h a ha).mono ?_
  rintro e w' ⟨rfl, rfl⟩
  go_wp2_with fail
  refine (aStore g a (nth xs a) v w h1 (h.row.free _)).mono ?_
  rintro e w' ⟨rfl, rfl⟩
  go_wp2
  go_end0
  exact ⟨rfl, h.put a v hv, only_put _ _ _ _⟩

theorem cSwap (h : Cel w p g xs) (a : Nat) (ha : a < xs.length) (v : Int) (hv : 0 ≤ v ∧ v < 4294967296) :
    Calls Tryz.prog 84 #[.pointer (some ⟨p, 0, none⟩), .int .i64 a, .int .u32 v] w (Did w p g (.int .u32 (nth xs a)) (xs.set a v)) := by
  have h0 := h.c0
  have h1 := h.at_ ha
  have hf := h.few
  go_enter Tryz.func84, Tryz.ntmps84
  go_wp2_with fail
  refine (cHas h a ha).mono ?_
  rintro e w' ⟨rfl, rfl⟩
  go_wp2_with fail
  refine (aSwap g a (nth xs a) v w h1 (h.row.free _)).mono ?_
  rintro e w' ⟨rfl, rfl⟩
  go_wp2
  go_ret
  exact ⟨rfl, h.put a v hv, only_put _ _ _ _⟩

theorem cAdd (h : Cel w p g xs) (a : Nat) (ha : a < xs.length) (v : Int) (_ : 0 ≤ v ∧ v < 4294967296) :
    Calls Tryz.prog 86 #[.pointer (some ⟨p, 0, none⟩), .int .i64 a, .int .u32 v] w (Did w p g (.int .u32 (nth xs a)) (xs.set a (two32 (nth xs a + v)))) := by
  have h0 := h.c0
  have h1 := h.at_ ha
  have hf := h.few
  have hx := h.rng.at_ a
  have hp := h.put a (two32 (nth xs a + v)) (two32_b _)
  have ho := only_put w g a (.int .u32 (two32 (nth xs a + v)))
  go_enter Tryz.func86, Tryz.ntmps86
  go_wp2_with fail
  refine (cHas h a ha).mono ?_
  rintro e w' ⟨rfl, rfl⟩
  go_wp2_with fail
  refine (aAdd g a (nth xs a) v w h1 (h.row.free _)).mono ?_
  rintro e w' ⟨rfl, rfl⟩
  go_wp2
  go_ret
  exact ⟨ret_int (by omega), hp, ho⟩

theorem cCasHit (h : Cel w p g xs) (a : Nat) (ha : a < xs.length) (v : Int) (hv : 0 ≤ v ∧ v < 4294967296) :
    Calls Tryz.prog 85 #[.pointer (some ⟨p, 0, none⟩), .int .i64 a, .int .u32 (nth xs a), .int .u32 v] w (Did w p g (.bool true) (xs.set a v)) := by
  have h0 := h.c0
  have h1 := h.at_ ha
  have hf := h.few
  have hp := h.put a v hv
  go_enter Tryz.func85, Tryz.ntmps85
  go_wp2_with fail
  refine (cHas h a ha).mono ?_
  rintro e w' ⟨rfl, rfl⟩
  go_wp2_with fail
  refine (aCasHit g a (nth xs a) v w h1 (h.row.free _)).mono ?_
  rintro e w' ⟨rfl, rfl⟩
  go_wp2
  go_ret
  exact ⟨rfl, hp, only_put _ _ _ _⟩

theorem cCasMiss (h : Cel w p g xs) (a : Nat) (ha : a < xs.length) (o v : Int) (hne : ¬ nth xs a = o) :
    Calls Tryz.prog 85 #[.pointer (some ⟨p, 0, none⟩), .int .i64 a, .int .u32 o, .int .u32 v] w (Did w p g (.bool false) xs) := by
  have h0 := h.c0
  have h1 := h.at_ ha
  have hf := h.few
  go_enter Tryz.func85, Tryz.ntmps85
  go_wp2_with fail
  refine (cHas h a ha).mono ?_
  rintro e w' ⟨rfl, rfl⟩
  go_wp2_with fail
  refine (aCasMiss g a (nth xs a) o v hne w h1 (h.row.free _)).mono ?_
  rintro e w' ⟨rfl, rfl⟩
  go_wp2
  go_ret
  exact ⟨rfl, h, grown_refl _ _⟩
end

theorem a32info : (Tryz.prog.info? 157).map (fun i => (i.zero, i.size, i.bytes)) = some (some (.agg #[.int .u32 0]), 1, 4) := by kernel_rfl

/-- New cells: all 0, in memory of their own. -/
def Made (w : World) (n : Nat) (e : Ending) (w' : World) : Prop :=
  ∃ p g, e = .returned (.tuple #[.pointer (some ⟨p, 0, none⟩), .int .i64 0]) ∧ Cel w' p g (List.replicate n 0) ∧ w.heap.size ≤ p ∧ w.heap.size ≤ g ∧ w.grownBy w' none

theorem cNew (n : Nat) (hn : n ≤ 8192) (w : World) : Calls Tryz.prog 46 #[.int .i64 n] w (Made w n) := by
  obtain ⟨i0, hi0, hz0, hz1, hz2⟩ := info_parts a32info
  have hmk := fun W : World => run_make (P := Tryz.prog) W 151 157 i0 _ Tryz.underlying151 hi0 hz0 .i64 .i64 n n (by omega) (by omega) (by rw [hz2]; omega) (by omega)
  rw [hz1] at hmk
  clear hi0 hz0 hz1 hz2
  go_enter Tryz.func46, Tryz.ntmps46
  go_wp2
  go_ret2
  refine ⟨w.heap.size + 1, w.heap.size, rfl, ?_, by omega, Nat.le_refl _, ?_⟩
  · rw [made_words]
    refine ⟨?_, (Bk.made _ _ _).alloc _, U32s.zeros n, by simpa using hn⟩
    have := Bk.made (w.alloc (.cells (words (List.replicate n 0)) 157)) 153 #[.slice (some ⟨w.heap.size, 0, none⟩) n n]
    simpa using this
  · exact grown_then (grown_made _ _ _) (grown_made _ _ none) (.inl rfl)

/-- What is told of all cells: a row of its own. -/
def Told (w : World) (p g : Nat) (xs : List Int) (e : Ending) (w' : World) : Prop :=
  ∃ q, e = .returned (.slice (some ⟨q, 0, none⟩) xs.length xs.length) ∧ Bk w' q 43 (words xs) ∧ Cel w' p g xs ∧ w.heap.size ≤ q ∧ w.grownBy w' none

def Part (xs : List Int) (k : Nat) : List Int := xs.take k ++ List.replicate (xs.length - k) 0
theorem part_len (xs : List Int) (k : Nat) (h : k ≤ xs.length) : (Part xs k).length = xs.length := by simp [Part]; omega
theorem part_0 (xs : List Int) : Part xs 0 = List.replicate xs.length 0 := by simp [Part]
theorem part_all (xs : List Int) : Part xs xs.length = xs := by simp [Part]
theorem part_set (xs : List Int) (k : Nat) (h : k < xs.length) : (Part xs k).set k (nth xs k) = Part xs (k + 1) := by
  apply List.ext_getElem?
  intro i
  simp only [Part, List.getElem?_set, List.getElem?_append, List.length_append, List.length_take, List.length_replicate, List.getElem?_replicate, List.getElem?_take]
  by_cases e : k = i
  · subst e
    have h1 : k < min (k + 1) xs.length := by omega
    simp [h, h1, nth]
    omega
  · by_cases h2 : i < k
    · have h3 : i < min k xs.length := by omega
      have h4 : i < min (k + 1) xs.length := by omega
      simp [e, h2, h3, h4]; omega
    · have h3 : ¬ i < min k xs.length := by omega
      have h4 : ¬ i < min (k + 1) xs.length := by omega
      have h5 : (i - min k xs.length < xs.length - k) ↔ (i - min (k + 1) xs.length < xs.length - (k + 1)) := by omega
      simp only [e, h3, h4, if_false, h5]

def WordsRel (w : World) (p g q : Nat) (xs : List Int) (k : Nat) (wr : World) : Prop :=
  Bk wr q 43 (words (Part xs k)) ∧ Cel wr p g xs ∧ w.grownBy wr none

theorem words_step {w wr : World} {p g q k : Nat} {xs : List Int} (hq : w.heap.size ≤ q) (hk : k < xs.length) (h : WordsRel w p g q xs k wr) :
    WordsRel w p g q xs (k + 1) (wr.setCell ⟨q, k, none⟩ (.int .u32 (nth xs k))) := by
  obtain ⟨h1, h2, h3⟩ := h
  refine ⟨?_, h2.kept (only_put wr q k _) (fun e => ?_) (fun e => ?_), grown_then h3 (only_put wr q k _) (.inr fun x e => by injection e with e; omega)⟩
  · have := h1.put k (.int .u32 (nth xs k))
    rwa [words_set, part_set xs k hk] at this
  · injection e with e; exact h2.ptr.unlike h1 (by decide) e
  · injection e with e; exact h2.row.unlike h1 (by decide) e

set_option maxHeartbeats 400000 in
theorem cWords {w : World} {p g : Nat} {xs : List Int} (h : Cel w p g xs) :
    Calls Tryz.prog 63 #[.pointer (some ⟨p, 0, none⟩)] w (Told w p g xs) := by
  obtain ⟨i0, hi0, hz0, hz1, hz2⟩ := info_parts u32info
  have hf := h.few
  have hmk := fun W : World => run_make (P := Tryz.prog) W 26 43 i0 _ Tryz.underlying26 hi0 hz0 .i64 .i64 xs.length xs.length (by omega) (by omega) (by rw [hz2]; omega) (by omega)
  rw [hz1] at hmk
  clear hi0 hz0 hz1 hz2
  have h0 := h.c0
  go_enter Tryz.func63, Tryz.ntmps63
  go_wp2
  clear hmk
  go_loopw [13] (fun i wr => ∃ k : Nat, k ≤ xs.length ∧ i = .int .i64 k ∧ WordsRel w p g w.heap.size xs k wr) (fun i _ => xs.length - (intOf i).toNat)
  case atStart =>
    refine ⟨0, Nat.zero_le _, rfl, ?_, h.alloc _, grown_made _ _ _⟩
    rw [made_words, part_0]
    exact Bk.made _ _ _
  case round =>
    obtain ⟨k, hk, rfl, hr⟩ := hrel
    by_cases hlt : k < xs.length
    · have hc := hr.2.1
      have h0' := hc.c0
      have hx := hc.at_ hlt
      have hq := hr.1.cell k
      rw [words_at _ _ (by rw [part_len xs k hk]; exact hlt)] at hq
      have hz := hr.1.free k
      have hs := words_step (Nat.le_refl _) hlt hr
      have HS := Lib.hid hs
      clear hs hr h0
      go_wp2_with fail
      refine (aLoad g k (nth xs k) _ hx).mono ?_
      rintro e w' ⟨rfl, rfl⟩
      go_wp2
      go_roundw
      case rel => exact ⟨k + 1, by omega, by go_num, HS.out⟩
      case measure => simp [intOf]; omega
    · obtain rfl : k = xs.length := by omega
      obtain ⟨h1, h2, h3⟩ := hr
      rw [part_all] at h1
      go_wp2
      go_ret
      exact ⟨w.heap.size, rfl, h1, h2, Nat.le_refl _, h3⟩
end Go.Proofs.YtpinpipjlongaaaGreat
