/- CoreM, Pool, Flow, Lay, Prg. -/
import Derived.Test.YtpinpipjlongaaaGreatKHold
import Derived.Test.YtpinpipjlongaaaGreatKMem
import Derived.Laws.BitsAllLaws
import Derived.Test.YtpinpipjlongaaaGreatRows
import Derived.Maps.RangeWalk
/- CoreM, ArM, FifoM, ExM, ExD, ExStM, one behind the other. -/
/- Layer 8 as plain lists: a core behind one instruction, how it runs on, and that it stops again where it has stopped. No walk stands here. -/
namespace Go.Proofs.YtpinpipjlongaaaGreat
open Go.RowKit
set_option linter.unusedVariables false

/-- Eight registers, each a word. -/
def Eight (xs : List Int) : Prop := xs.length = 8 ∧ U32s xs
theorem eight_cons {xs : List Int} (h : xs.length = 8) : ∃ a b c d e f g i, xs = [a, b, c, d, e, f, g, i] := by
  match xs, h with
  | [a, b, c, d, e, f, g, i], _ => exact ⟨a, b, c, d, e, f, g, i, rfl⟩

def andI (a b : Int) : Int := ((a.toNat &&& b.toNat : Nat) : Int)
def orI (a b : Int) : Int := ((a.toNat ||| b.toNat : Nat) : Int)
theorem andI_range {a b : Int} (h0 : 0 ≤ a) (h1 : a < 4294967296) : 0 ≤ andI a b ∧ andI a b < 4294967296 := by
  unfold andI
  have := Nat.and_le_left (n := a.toNat) (m := b.toNat)
  omega
theorem orI_range {a b : Int} (h0 : 0 ≤ a) (h1 : a < 4294967296) (h2 : 0 ≤ b) (h3 : b < 4294967296) : 0 ≤ orI a b ∧ orI a b < 4294967296 := by
  unfold orI
  have := Nat.or_lt_two_pow (x := a.toNat) (y := b.toNat) (n := 32) (by omega) (by omega)
  omega

/-- The bits that both have, or that one has, from the lowest one on, so many. -/
def bitN (both : Bool) (a b : Nat) : Nat → Nat
  | 0 => 0
  | n + 1 => bitN both a b n + (if (if both then a / 2 ^ n % 2 + b / 2 ^ n % 2 = 2 else 0 < a / 2 ^ n % 2 + b / 2 ^ n % 2) then 2 ^ n else 0)
theorem bit_step (x n : Nat) : x % 2 ^ (n + 1) = x % 2 ^ n + (if x / 2 ^ n % 2 = 1 then 2 ^ n else 0) := by
  rw [Nat.mod_pow_succ]
  have : x / 2 ^ n % 2 = 0 ∨ x / 2 ^ n % 2 = 1 := by omega
  rcases this with h | h <;> simp [h]
theorem bit_and (a b n : Nat) : (a &&& b) / 2 ^ n % 2 = 1 ↔ a / 2 ^ n % 2 = 1 ∧ b / 2 ^ n % 2 = 1 := by
  have h := Nat.testBit_and a b n
  simp only [Nat.testBit_eq_decide_div_mod_eq, decide_eq_decide, ← Bool.decide_and] at h
  exact h
theorem bit_or (a b n : Nat) : (a ||| b) / 2 ^ n % 2 = 1 ↔ a / 2 ^ n % 2 = 1 ∨ b / 2 ^ n % 2 = 1 := by
  have h := Nat.testBit_or a b n
  simp only [Nat.testBit_eq_decide_div_mod_eq, decide_eq_decide, ← Bool.decide_or] at h
  exact h
theorem bitN_and (a b : Nat) : ∀ n, bitN true a b n = (a &&& b) % 2 ^ n
  | 0 => by simp [bitN, Nat.mod_one]
  | n + 1 => by
    rw [bit_step, bitN, bitN_and a b n]
    congr 1
    have h1 : a / 2 ^ n % 2 = 0 ∨ a / 2 ^ n % 2 = 1 := by omega
    have h2 : b / 2 ^ n % 2 = 0 ∨ b / 2 ^ n % 2 = 1 := by omega
    have h3 := bit_and a b n
    rcases h1 with h1 | h1 <;> rcases h2 with h2 | h2 <;> simp [h1, h2] at h3 ⊢ <;> simp [h3]
theorem bitN_or (a b : Nat) : ∀ n, bitN false a b n = (a ||| b) % 2 ^ n
  | 0 => by simp [bitN, Nat.mod_one]
  | n + 1 => by
    rw [bit_step, bitN, bitN_or a b n]
    congr 1
    have h1 : a / 2 ^ n % 2 = 0 ∨ a / 2 ^ n % 2 = 1 := by omega
    have h2 : b / 2 ^ n % 2 = 0 ∨ b / 2 ^ n % 2 = 1 := by omega
    have h3 := bit_or a b n
    rcases h1 with h1 | h1 <;> rcases h2 with h2 | h2 <;> simp [h1, h2] at h3 ⊢ <;> simp [h3]
theorem bitN_le (both : Bool) (a b : Nat) : ∀ n, bitN both a b n < 2 ^ n
  | 0 => by simp [bitN]
  | n + 1 => by
    have := bitN_le both a b n
    rw [bitN, Nat.pow_succ]
    have : ∀ c : Prop, [Decidable c] → (if c then 2 ^ n else 0) ≤ 2 ^ n := by intro c _; split <;> omega
    have := this (if both = true then a / 2 ^ n % 2 + b / 2 ^ n % 2 = 2 else 0 < a / 2 ^ n % 2 + b / 2 ^ n % 2)
    omega
theorem bitN_is (both : Bool) (a b : Int) (h0 : 0 ≤ a) (h1 : a < 4294967296) (h2 : 0 ≤ b) (h3 : b < 4294967296) : (bitN both a.toNat b.toNat 32 : Int) = if both then andI a b else orI a b := by
  cases both
  · rw [bitN_or, Nat.mod_eq_of_lt (Nat.or_lt_two_pow (by omega) (by omega))]; rfl
  · rw [bitN_and, Nat.mod_eq_of_lt (Nat.lt_of_le_of_lt Nat.and_le_left (by omega))]; rfl

/-- What rD is behind a local instruction, if it has one: a and b are what rS and rT are. -/
def valA (op a b k self : Int) : Option Int :=
  if op = 1 then some k
  else if op = 2 then some a
  else if op = 3 then some ((a + k) % 4294967296)
  else if op = 4 then some (andI a k)
  else if op = 5 then some (a * 2 ^ k.toNat % 4294967296)
  else if op = 6 then some (a / 2 ^ k.toNat)
  else if op = 7 then some (orI a b)
  else if op = 11 then some self
  else none
def valueO (xs : List Int) (i : Ins) (self : Int) : Option Int := valA i.op (nth xs i.s.toNat) (nth xs i.t.toNat) i.k self

/-- Where it goes. -/
def placeA (op a b pl pc : Int) : Int := if op = 10 ∨ (op = 8 ∧ a = b) ∨ (op = 9 ∧ a ≠ b) then pl else if op = 13 then pc else pc + 1
def placeL (xs : List Int) (pc : Int) (i : Ins) : Int := placeA i.op (nth xs i.s.toNat) (nth xs i.t.toNat) i.pl pc
def regsL (xs : List Int) (i : Ins) (self : Int) : List Int := match valueO xs i self with
  | some v => xs.set i.d.toNat v
  | none => xs
/-- A core behind one instruction. -/
def oneR (xs : List Int) (i : Ins) (self : Int) : List Int := if memB i.op then xs else regsL xs i self
def oneP (xs : List Int) (pc : Int) (i : Ins) : Int := if memB i.op then pc else placeL xs pc i

/-- What is known of a right instruction, of a program of n. -/
structure OkI (i : Ins) : Prop where
  op : (1 ≤ i.op ∧ i.op ≤ 13) ∨ (16 ≤ i.op ∧ i.op ≤ 23)
  d : 0 ≤ i.d ∧ i.d ≤ 7
  s : 0 ≤ i.s ∧ i.s ≤ 7
  t : 0 ≤ i.t ∧ i.t ≤ 7
  k : 0 ≤ i.k ∧ i.k < 4294967296
  sh : (i.op = 5 ∨ i.op = 6) → i.k ≤ 31
  mark : (i.op = 12 ∨ i.op = 13) → i.k ≤ 4
theorem ok_of {i : Ins} {p : Int} (h : rightB i p = true) (k0 : 0 ≤ i.k) (k1 : i.k < 4294967296) : OkI i := by
  obtain ⟨hd, hs, ht, hu, ha⟩ := right_regs i p h
  obtain ⟨op, d, s, t, u, a, k, pl⟩ := i
  simp only at k0 k1 hd hs ht hu ha
  refine ⟨?_, hd, hs, ht, ⟨k0, k1⟩, ?_, ?_⟩
  · rcases op_cases op with rfl | rfl | rfl | rfl | rfl | rfl | rfl | rfl | rfl | rfl | rfl | rfl | rfl | rfl | rfl | rfl | rfl | rfl | rfl | rfl | rfl | hn
    rotate_right
    · unfold rightB at h
      rw [(hs_none hn).1] at h
      simp at h
    all_goals simp
  · rintro (e | e)
    · simp only at e
      subst e
      rw [right_5 d s t u a k pl p hd hs ht hu ha k0 k1] at h
      simp at h
      exact h.2
    · simp only at e
      subst e
      rw [right_6 d s t u a k pl p hd hs ht hu ha k0 k1] at h
      simp at h
      exact h.2
  · rintro (e | e)
    · simp only at e
      subst e
      rw [right_12 d s t u a k pl p hd hs ht hu ha k0 k1] at h
      simp at h
      show k ≤ 4
      omega
    · simp only at e
      subst e
      rw [right_13 d s t u a k pl p hd hs ht hu ha k0 k1] at h
      simp at h
      show k ≤ 4
      omega

section
variable {xs : List Int} {i : Ins} {self : Int}
theorem pow_u32 {k : Int} (h0 : 0 ≤ k) (h1 : k ≤ 31) : (1 : Int) ≤ 2 ^ k.toNat ∧ (2 : Int) ^ k.toNat ≤ 2147483648 := by
  have a := Nat.one_le_two_pow (n := k.toNat)
  have b := Nat.pow_le_pow_right (n := 2) (by omega) (show k.toNat ≤ 31 by omega)
  have e : ((2 ^ k.toNat : Nat) : Int) = (2 : Int) ^ k.toNat := by simp
  omega
theorem valueO_u32 (hx : U32s xs) (h : OkI i) (h0 : 0 ≤ self) (h1 : self < 4294967296) {v : Int} (hv : valueO xs i self = some v) : 0 ≤ v ∧ v < 4294967296 := by
  have es := hx.at_ i.s.toNat
  have et := hx.at_ i.t.toNat
  have hk := h.k
  unfold valueO valA at hv
  repeat' split at hv
  all_goals first | (injection hv with hv; subst hv) | cases hv
  · omega
  · omega
  · omega
  · exact andI_range es.1 es.2
  · omega
  · rename_i e
    have hp := pow_u32 hk.1 (h.sh (.inr e))
    have := Int.ediv_le_self (2 ^ i.k.toNat) es.1
    have := Int.ediv_nonneg es.1 (by omega : (0 : Int) ≤ 2 ^ i.k.toNat)
    omega
  · exact orI_range es.1 es.2 et.1 et.2
  · omega
theorem Eight.one (hx : Eight xs) (h : OkI i) (h0 : 0 ≤ self) (h1 : self < 4294967296) : Eight (oneR xs i self) := by
  unfold oneR regsL
  split
  · exact hx
  · split
    · rename_i v hv
      exact ⟨by rw [List.length_set]; exact hx.1, hx.2.set _ _ (valueO_u32 hx.2 h h0 h1 hv)⟩
    · exact hx
end

/-- A core that runs on, at most n local instructions more: what it is as it stops; the marks; what it is over with; what is wrong. -/
structure Out where
  xs : List Int
  pc : Int
  ms : List Int
  done : Int
  e : Int
def runL (self : Int) (l : List Ins) : Nat → List Int → Int → List Int → Out
  | n, xs, pc, ms =>
    if pc < 0 then ⟨xs, pc, ms, -1, 11⟩
    else match l[pc.toNat]? with
      | none => ⟨xs, pc, ms, -1, 11⟩
      | some i => if memB i.op then ⟨xs, pc, ms, -1, 0⟩
        else match n with
          | 0 => ⟨xs, pc, ms, -1, 11⟩
          | n + 1 => if i.op = 13 then ⟨xs, pc, ms, i.k, 0⟩ else runL self l n (oneR xs i self) (oneP xs pc i) (if i.op = 12 then ms ++ [i.k] else ms)
section
variable {self : Int} {l : List Ins} {n : Nat} {xs : List Int} {pc : Int} {ms : List Int}
theorem runL_out (h : pc < 0 ∨ l.length ≤ pc) : runL self l n xs pc ms = ⟨xs, pc, ms, -1, 11⟩ := by
  unfold runL
  by_cases h0 : pc < 0
  · rw [if_pos h0]
  · rw [if_neg h0, List.getElem?_eq_none (by omega)]
theorem runL_mem {i : Ins} {k : Nat} (h : l[k]? = some i) (hm : memB i.op = true) : runL self l n xs k ms = ⟨xs, k, ms, -1, 0⟩ := by
  unfold runL
  rw [if_neg (by omega), Int.toNat_natCast, h]
  simp [hm]
theorem runL_zero {i : Ins} {k : Nat} (h : l[k]? = some i) (hm : memB i.op = false) : runL self l 0 xs k ms = ⟨xs, k, ms, -1, 11⟩ := by
  unfold runL
  rw [if_neg (by omega), Int.toNat_natCast, h]
  simp [hm]
theorem runL_done {i : Ins} {k : Nat} (h : l[k]? = some i) (hm : i.op = 13) : runL self l (n + 1) xs k ms = ⟨xs, k, ms, i.k, 0⟩ := by
  unfold runL
  rw [if_neg (by omega), Int.toNat_natCast, h]
  simp [hm, memB]
theorem runL_step {i : Ins} {k : Nat} (h : l[k]? = some i) (hm : memB i.op = false) (h13 : i.op ≠ 13) : runL self l (n + 1) xs k ms = runL self l n (oneR xs i self) (oneP xs k i) (if i.op = 12 then ms ++ [i.k] else ms) := by
  conv => lhs; unfold runL
  rw [if_neg (by omega), Int.toNat_natCast, h]
  simp [hm, h13]
end
theorem runL_eight {self : Int} {l : List Ins} (hl : ∀ i ∈ l, OkI i) (h0 : 0 ≤ self) (h1 : self < 4294967296) : ∀ (n : Nat) (xs : List Int) (pc : Int) (ms : List Int), Eight xs → Eight (runL self l n xs pc ms).xs
  | n, xs, pc, ms, hx => by
    by_cases h9 : pc < 0 ∨ l.length ≤ pc
    · rw [runL_out h9]; exact hx
    · obtain ⟨k, rfl⟩ : ∃ k : Nat, pc = k := ⟨pc.toNat, by omega⟩
      have hk := List.getElem?_eq_getElem (l := l) (i := k) (by omega)
      have hi := hl _ (List.getElem_mem (l := l) (n := k) (by omega))
      generalize l[k] = i at hk hi
      by_cases hm : memB i.op = true
      · rw [runL_mem hk hm]; exact hx
      · have hm' : memB i.op = false := by simpa using hm
        match n with
        | 0 => rw [runL_zero hk hm']; exact hx
        | n + 1 =>
          by_cases h13 : i.op = 13
          · rw [runL_done hk h13]; exact hx
          · rw [runL_step hk hm' h13]; exact runL_eight hl h0 h1 n _ _ _ (hx.one hi h0 h1)
end Go.Proofs.YtpinpipjlongaaaGreat

/- Areas of cells as plain lists: which sizes there may be, where each area begins, all cells in a row, and where each one lies: over any program. -/
namespace Go.Proofs.YtpinpipjlongaaaGreat

/-- There may be areas of these sizes. -/
def RightZ (zs : List Int) : Prop := zs.length ≤ 8 ∧ ∀ k, k < zs.length → 0 ≤ nth zs k ∧ nth zs k ≤ 4096
/-- An area's size. -/
def sz (zs : List Int) (k : Nat) : Nat := (nth zs k).toNat
/-- Where an area begins. -/
def pre (zs : List Int) : Nat → Nat
  | 0 => 0
  | k + 1 => pre zs k + sz zs k
theorem pre_succ (zs : List Int) (k : Nat) : pre zs (k + 1) = pre zs k + sz zs k := rfl
/-- All of them together. -/
def tot (zs : List Int) : Nat := pre zs zs.length
/-- The cells of the first k areas: each one's area and place. -/
def celTo (zs : List Int) : Nat → List (Nat × Nat)
  | 0 => []
  | k + 1 => celTo zs k ++ (List.range (sz zs k)).map fun i => (k, i)
def cels (zs : List Int) : List (Nat × Nat) := celTo zs zs.length

section
variable {zs : List Int}
theorem sz_eq (h : RightZ zs) {k : Nat} (hk : k < zs.length) : nth zs k = (sz zs k : Int) := by
  have := (h.2 k hk).1; unfold sz; omega
theorem sz_le (h : RightZ zs) {k : Nat} (hk : k < zs.length) : sz zs k ≤ 4096 := by
  have := (h.2 k hk); unfold sz; omega
theorem pre_mono (zs : List Int) {a b : Nat} (h : a ≤ b) : pre zs a ≤ pre zs b := by
  induction b with
  | zero => obtain rfl : a = 0 := by omega
            exact Nat.le_refl _
  | succ b ih =>
    by_cases e : a = b + 1
    · subst e; exact Nat.le_refl _
    · exact Nat.le_trans (ih (by omega)) (by simp [pre])
theorem pre_le (h : RightZ zs) : ∀ k, k ≤ zs.length → pre zs k ≤ 4096 * k
  | 0, _ => Nat.le_refl _
  | k + 1, hk => by
    have h1 := pre_le h k (by omega)
    have h2 := sz_le h (k := k) (by omega)
    rw [pre_succ]; omega
theorem tot_le (h : RightZ zs) : tot zs ≤ 32768 := by
  have h1 := pre_le h zs.length (Nat.le_refl _)
  have h2 := h.1
  unfold tot; omega
theorem pre_tot {k : Nat} (hk : k ≤ zs.length) : pre zs k ≤ tot zs := pre_mono zs hk
theorem celTo_len (zs : List Int) : ∀ k, (celTo zs k).length = pre zs k
  | 0 => rfl
  | k + 1 => by simp [celTo, pre, celTo_len zs k]
theorem cels_len (zs : List Int) : (cels zs).length = tot zs := celTo_len zs _
/-- Where the cell of a place in an area stands. -/
theorem celTo_at (zs : List Int) : ∀ K a p, a < K → p < sz zs a → (celTo zs K)[pre zs a + p]? = some (a, p)
  | 0, a, p, ha, _ => by omega
  | K + 1, a, p, ha, hp => by
    unfold celTo
    rw [List.getElem?_append, celTo_len]
    by_cases e : a = K
    · subst e
      rw [if_neg (by omega), Nat.add_sub_cancel_left]
      simp [hp]
    · have h1 : pre zs (a + 1) ≤ pre zs K := pre_mono zs (by omega)
      rw [pre_succ] at h1
      rw [if_pos (by omega)]
      exact celTo_at zs K a p (by omega) hp
theorem cels_at {a p : Nat} (ha : a < zs.length) (hp : p < sz zs a) : (cels zs)[pre zs a + p]? = some (a, p) := celTo_at zs _ a p ha hp
/-- Each address lies somewhere. -/
theorem pre_split (zs : List Int) : ∀ K i, i < pre zs K → ∃ a p, a < K ∧ p < sz zs a ∧ i = pre zs a + p
  | 0, i, h => by unfold pre at h; omega
  | K + 1, i, h => by
    by_cases e : i < pre zs K
    · obtain ⟨a, p, h1, h2, h3⟩ := pre_split zs K i e
      exact ⟨a, p, by omega, h2, h3⟩
    · rw [pre_succ] at h
      exact ⟨K, i - pre zs K, by omega, by omega, by omega⟩
theorem tot_split {i : Nat} (h : i < tot zs) : ∃ a p, a < zs.length ∧ p < sz zs a ∧ i = pre zs a + p := pre_split zs _ i h
theorem pre_lt {a p : Nat} (ha : a < zs.length) (hp : p < sz zs a) : pre zs a + p < tot zs := by
  have h1 : pre zs (a + 1) ≤ tot zs := pre_tot (by omega)
  rw [pre_succ] at h1; omega

/-- A cell's two values, and those of a row of them. -/
def celC (c : Nat × Nat) : List Value := [.int .i64 c.1, .int .i64 c.2]
def celsC (l : List (Nat × Nat)) : List Value := l.flatMap celC
theorem celsC_snoc (l : List (Nat × Nat)) (c : Nat × Nat) : celsC (l ++ [c]) = celsC l ++ celC c := by simp [celsC]
theorem celsC_at : ∀ (l : List (Nat × Nat)) (k : Nat) (c : Nat × Nat), l[k]? = some c → (celsC l)[k * 2]? = some (.int .i64 c.1) ∧ (celsC l)[k * 2 + 1]? = some (.int .i64 c.2)
  | [], k, c, h => by simp at h
  | x :: l, 0, c, h => by simp at h; subst h; exact ⟨rfl, rfl⟩
  | x :: l, k + 1, c, h => by
    have ih := celsC_at l k c (by simpa using h)
    have e : celsC (x :: l) = .int .i64 x.1 :: .int .i64 x.2 :: celsC l := by simp [celsC, celC]
    rw [e, show (k + 1) * 2 = k * 2 + 1 + 1 by omega]
    exact ih
/-- One more of an area's cells. -/
def celPart (zs : List Int) (k i : Nat) : List (Nat × Nat) := celTo zs k ++ (List.range i).map fun i => (k, i)
theorem celPart_0 (zs : List Int) (k : Nat) : celPart zs k 0 = celTo zs k := by simp [celPart]
theorem celPart_all (zs : List Int) (k : Nat) : celPart zs k (sz zs k) = celTo zs (k + 1) := rfl
theorem celPart_next (zs : List Int) (k i : Nat) : celPart zs k (i + 1) = celPart zs k i ++ [(k, i)] := by simp [celPart, List.range_succ]
theorem celPart_len (zs : List Int) (k i : Nat) : (celPart zs k i).length = pre zs k + i := by simp [celPart, celTo_len]
end
end Go.Proofs.YtpinpipjlongaaaGreat

/- Layer 13 as plain lists: what the document says of a trace, entry by entry, and the same as a machine that goes on from entry to entry: over any program. No walk stands here. -/
namespace Go.Proofs.YtpinpipjlongaaaGreat
set_option linter.unusedVariables false

/-- An entry. -/
structure En where
  kind : Int
  th : Int
  now : Int
/-- The kind of a thread's last entry (0: it has none). -/
def lastD (l : List En) (t : Int) : Int := l.foldl (fun k x => if x.th = t then x.kind else k) 0
/-- Does the i'th entry stand for one who is in the queue? -/
def qAt (l : List En) (i : Nat) : Option Int := match l[i]? with
  | some x => if x.kind = 2 ∧ lastD l x.th = 2 ∧ lastD (l.drop (i + 1)) x.th = 0 then some x.th else none
  | none => none
def queueD (l : List En) : List Int := (List.range l.length).filterMap (qAt l)
/-- One who is granted, holds or leaves. -/
def ownK (k : Int) : Bool := decide (k = 3 ∨ k = 5 ∨ k = 8)
def ownerD (l : List En) : Int := match l.reverse.find? (fun x => ownK (lastD l x.th)) with
  | some x => x.th
  | none => -1
/-- Does an entry fit, as far as its tick goes? -/
def nowD (l : List En) (x : En) : Prop := 0 ≤ x.now ∧ match l.getLast? with
  | some y => y.now ≤ x.now
  | none => True
/-- Does an entry fit behind others that do? -/
def kindD (last : Int) (q : List Int) (ow : Int) (x : En) : Prop :=
  (x.kind = 1 ∧ (last = 0 ∨ last = 6 ∨ last = 7 ∨ last = 10)) ∨ ((x.kind = 2 ∨ x.kind = 7) ∧ last = 1) ∨ (x.kind = 3 ∧ last = 2 ∧ q.head? = some x.th ∧ ow = -1) ∨ (x.kind = 4 ∧ last = 2) ∨
  (x.kind = 5 ∧ last = 3) ∨ (x.kind = 6 ∧ last = 4) ∨ (x.kind = 8 ∧ last = 5) ∨ (x.kind = 9 ∧ last = 8) ∨ (x.kind = 10 ∧ last = 9)
instance (last : Int) (q : List Int) (ow : Int) (x : En) : Decidable (kindD last q ow x) := by unfold kindD; infer_instance
instance (l : List En) (x : En) : Decidable (nowD l x) := by
  unfold nowD
  cases l.getLast? <;> infer_instance
def fitsD (n : Int) (l : List En) (x : En) : Prop := 0 ≤ x.th ∧ x.th < n ∧ nowD l x ∧ kindD (lastD l x.th) (queueD l) (ownerD l) x
instance (n : Int) (l : List En) (x : En) : Decidable (fitsD n l x) := by unfold fitsD; infer_instance
section
variable {n : Int} {l : List En} {x : En}
end

end Go.Proofs.YtpinpipjlongaaaGreat

/- Layer 10 as plain lists: a lock at work, a step of it, what it comes to; and who calls it when (as the document's runs have it). No walk stands here. -/
namespace Go.Proofs.YtpinpipjlongaaaGreat
set_option linter.unusedVariables false

/-- What a lock at work never changes: its program, its areas, its nodes for each thread, how many threads. -/
structure Lk where
  l : List Ins
  lo : Int
  un : Int
  zs : List Int
  each : Nat
  n : Nat
/-- A core. -/
structure Cor where
  xs : List Int
  pc : Int
/-- Nodes, numbered from 0 on: each thread's free ones, in order; each one's generation, and whether it is out (1). -/
structure Pn where
  free : Nat → List Nat
  gen : List Int
  out : List Int
/-- What it changes: all words, its nodes, its cores. -/
structure Mc where
  ws : List Int
  pn : Pn
  cs : Nat → Cor
/-- What a step comes to. -/
structure Ot where
  ms : List Int
  done : Int
  addr : Int
  wrote : Bool
  stay : Bool
  e : Int

/-- A function changed at one place. -/
def updN {α : Type} (f : Nat → α) (t : Nat) (v : α) : Nat → α := fun i => if i = t then v else f i
theorem updN_same {α : Type} (f : Nat → α) (t : Nat) (v : α) : updN f t v t = v := by simp [updN]
theorem updN_other {α : Type} {f : Nat → α} {t i : Nat} {v : α} (h : i ≠ t) : updN f t v i = f i := by simp [updN, h]

/-- A node's handle. -/
def hdlN (gen : List Int) (q : Nat) : Int := nth gen q * 4096 + ((q : Int) + 1)
/-- Has a node that is out this handle? -/
def isN (gen out : List Int) (h : Int) : Bool := decide (1 ≤ h % 4096 ∧ h % 4096 ≤ (out.length : Int) ∧ nth out (h % 4096 - 1).toNat = 1 ∧ hdlN gen (h % 4096 - 1).toNat = h)
def takeN (p : Pn) (t : Nat) : Pn × Int := match p.free t with
  | [] => (p, 0)
  | q :: rest => (⟨updN p.free t rest, p.gen, p.out.set q 1⟩, hdlN p.gen q)
/-- A node comes back (none: it isn't out by that handle). -/
def backN (each : Nat) (p : Pn) (h : Int) : Option Pn :=
  if h = 0 then some p
  else if isN p.gen p.out h then
    let q := (h % 4096 - 1).toNat
    some ⟨updN p.free (q / each) (p.free (q / each) ++ [q]), p.gen.set q ((h / 4096 + 1) % 262144), p.out.set q 0⟩
  else none
def newN (n each : Nat) : Pn := ⟨fun t => (List.range each).map fun i => t * each + i, List.replicate (n * each) 0, List.replicate (n * each) 0⟩
/-- How many of a thread's nodes are out. -/
def manyN (each : Nat) (p : Pn) (t : Nat) : Int := (each : Int) - ((p.free t).length : Int)

/-- Where the cell of a word in an area stands. -/
def findM (zs : List Int) (area v : Int) : Option Nat :=
  if 0 ≤ area ∧ area < zs.length ∧ v % 4096 < sz zs area.toNat then some (pre zs area.toNat + (v % 4096).toNat) else none

/-- What is local. -/
def runM (k : Lk) (m : Mc) (t : Nat) (c : Cor) (o : Ot) : Mc × Ot :=
  let r := runL (t : Int) k.l 256 c.xs c.pc []
  ({ m with cs := updN m.cs t ⟨r.xs, r.pc⟩ }, { o with ms := r.ms, done := r.done, e := r.e })
def beginM (k : Lk) (m : Mc) (t : Nat) (unlock : Bool) : Mc × Ot :=
  runM k m t ⟨(m.cs t).xs, if unlock then k.un else k.lo⟩ ⟨[], 0, -1, false, false, 0⟩
def trapO : Ot := ⟨[], -1, -1, false, false, 11⟩
/-- The instruction of the memory at which a core stands. -/
def memI (k : Lk) (pc : Int) : Option Ins := if pc < 0 then none else match k.l[pc.toNat]? with
  | some i => if memB i.op then some i else none
  | none => none
/-- An access of the cell a. -/
def accM (k : Lk) (m : Mc) (t : Nat) (c : Cor) (late : Bool) (i : Ins) (a : Nat) : Mc × Ot :=
  let v := nth c.xs i.t.toNat
  let u := nth c.xs i.u.toNat
  let was := nth m.ws a
  let d := i.d.toNat
  let o : Ot := ⟨[], 0, a, false, false, 0⟩
  if i.op = 16 then runM k m t ⟨c.xs.set d was, c.pc + 1⟩ o
  else if i.op = 17 then runM k { m with ws := m.ws.set a v } t ⟨c.xs, c.pc + 1⟩ { o with wrote := true }
  else if i.op = 18 then runM k { m with ws := m.ws.set a v } t ⟨c.xs.set d was, c.pc + 1⟩ { o with wrote := true }
  else if i.op = 19 then
    if was = v then runM k { m with ws := m.ws.set a u } t ⟨c.xs.set d 1, c.pc + 1⟩ { o with wrote := true }
    else runM k m t ⟨c.xs.set d 0, c.pc + 1⟩ o
  else if i.op = 20 then runM k { m with ws := m.ws.set a ((was + i.k) % 4294967296) } t ⟨c.xs.set d was, c.pc + 1⟩ { o with wrote := true }
  else
    let holds := decide (was = v) != decide (i.k = 1)
    if holds then runM k m t ⟨c.xs.set d was, c.pc + 1⟩ o
    else if late = false ∨ i.pl < 0 then ({ m with cs := updN m.cs t ⟨c.xs.set d was, c.pc⟩ }, { o with stay := true, done := -1 })
    else runM k m t ⟨c.xs.set d was, i.pl⟩ o
def stepM (k : Lk) (m : Mc) (t : Nat) (late : Bool) : Mc × Ot :=
  let c := m.cs t
  match memI k c.pc with
  | none => (m, trapO)
  | some i =>
    let s := nth c.xs i.s.toNat
    if i.op = 22 then
      let r := takeN m.pn t
      runM k { m with pn := r.1 } t ⟨c.xs.set i.d.toNat r.2, c.pc + 1⟩ ⟨[], 0, -1, false, false, 0⟩
    else if i.op = 23 then match backN k.each m.pn s with
      | none => (m, trapO)
      | some p => runM k { m with pn := p } t ⟨c.xs, c.pc + 1⟩ ⟨[], 0, -1, false, false, 0⟩
    else match findM k.zs i.a s with
      | none => (m, trapO)
      | some a => accM k m t c late i a
def newM (k : Lk) (init r7 : List Int) : Mc := ⟨init, newN k.n k.each, fun t => ⟨[0, 0, 0, 0, 0, 0, 0, nth r7 t], 0⟩⟩

/-- A run: the lock, what each thread does (0 nothing, 1 locks, 2 has the lock, 3 unlocks), what was marked; whether something was wrong. -/
structure Rn where
  m : Mc
  act : Nat → Int
  l : List En
  bad : Bool
def enter (r : Rn) (kind : Int) (t : Nat) : Rn := { r with l := r.l ++ [⟨kind, t, 0⟩] }
section
variable {r : Rn} {t : Nat} {ad : Int} {wr st : Bool}
end
end Go.Proofs.YtpinpipjlongaaaGreat

/- Layer 10 as plain lists, second part: a step is an access (or a node) and then all that is local; what is known of a right instruction of the memory; what stays. No walk stands here. -/
namespace Go.Proofs.YtpinpipjlongaaaGreat
set_option linter.unusedVariables false

/-- What an access leaves: all words, the core, whether it wrote, whether it stays. -/
structure Ac where
  ws : List Int
  c : Cor
  wrote : Bool
  stay : Bool
/-- What an await leaves of a core: the cell is v. -/
def awaitC (c : Cor) (i : Ins) (v : Int) (late : Bool) : Cor × Bool :=
  if decide (v = nth c.xs i.t.toNat) == decide (i.k = 0) then (⟨c.xs.set i.d.toNat v, c.pc + 1⟩, false)
  else if late = true ∧ i.pl ≠ -1 then (⟨c.xs.set i.d.toNat v, i.pl⟩, false)
  else (⟨c.xs.set i.d.toNat v, c.pc⟩, true)
def accW (ws : List Int) (c : Cor) (late : Bool) (i : Ins) (a : Nat) : Ac :=
  let v := nth c.xs i.t.toNat
  let u := nth c.xs i.u.toNat
  let was := nth ws a
  let d := i.d.toNat
  if i.op = 16 then ⟨ws, ⟨c.xs.set d was, c.pc + 1⟩, false, false⟩
  else if i.op = 17 then ⟨ws.set a v, ⟨c.xs, c.pc + 1⟩, true, false⟩
  else if i.op = 18 then ⟨ws.set a v, ⟨c.xs.set d was, c.pc + 1⟩, true, false⟩
  else if i.op = 19 then if was = v then ⟨ws.set a u, ⟨c.xs.set d 1, c.pc + 1⟩, true, false⟩ else ⟨ws, ⟨c.xs.set d 0, c.pc + 1⟩, false, false⟩
  else if i.op = 20 then ⟨ws.set a ((was + i.k) % 4294967296), ⟨c.xs.set d was, c.pc + 1⟩, true, false⟩
  else ⟨ws, (awaitC c i was late).1, false, (awaitC c i was late).2⟩

/-- What is known of a right instruction of the memory, of a program of n. -/
structure OkM (i : Ins) (n : Nat) : Prop where
  op : 16 ≤ i.op ∧ i.op ≤ 23
  d : 0 ≤ i.d ∧ i.d ≤ 7
  s : 0 ≤ i.s ∧ i.s ≤ 7
  t : 0 ≤ i.t ∧ i.t ≤ 7
  u : 0 ≤ i.u ∧ i.u ≤ 7
  a : 0 ≤ i.a ∧ i.a ≤ 7
  k : 0 ≤ i.k ∧ i.k < 4294967296
  aw : i.op = 21 → (i.k = 0 ∨ i.k = 1) ∧ (i.pl = -1 ∨ (0 ≤ i.pl ∧ i.pl < n))
theorem okM_of {i : Ins} {n : Nat} (h : rightB i n = true) (k0 : 0 ≤ i.k) (k1 : i.k < 4294967296) (hm : memB i.op = true) : OkM i n := by
  obtain ⟨hd, hs, ht, hu, ha⟩ := right_regs i n h
  have ho := (ok_of h k0 k1).op
  have hop : 16 ≤ i.op ∧ i.op ≤ 23 := by
    unfold memB at hm
    simp only [Bool.and_eq_true, decide_eq_true_eq] at hm
    omega
  refine ⟨hop, hd, hs, ht, hu, ha, ⟨k0, k1⟩, fun e => ?_⟩
  obtain ⟨op, d, s, t, u, a, k, pl⟩ := i
  simp only at e k0 k1 hd hs ht hu ha
  subst e
  rw [right_21 d s t u a k pl n hd hs ht hu ha k0 k1] at h
  simp at h
  simp only
  omega

theorem Eight.put {xs : List Int} (h : Eight xs) (d : Nat) {v : Int} (hv : 0 ≤ v ∧ v < 4294967296) : Eight (xs.set d v) := ⟨by rw [List.length_set]; exact h.1, h.2.set _ _ hv⟩

section
variable {ws : List Int} {c : Cor} {late : Bool} {i : Ins} {a n : Nat}
theorem accW_len : (accW ws c late i a).ws.length = ws.length := by
  unfold accW
  simp only
  repeat' split
  all_goals simp
theorem accW_u32 (hw : U32s ws) (hx : Eight c.xs) : U32s (accW ws c late i a).ws := by
  have h0 := hw.at_ a
  have h1 := hx.2.at_ i.t.toNat
  have h2 := hx.2.at_ i.u.toNat
  unfold accW
  simp only
  repeat' split
  all_goals first | exact hw | exact hw.set _ _ h1 | exact hw.set _ _ h2 | exact hw.set _ _ (by omega)
theorem awaitC_eight {v : Int} (hv : 0 ≤ v ∧ v < 4294967296) (hx : Eight c.xs) : Eight (awaitC c i v late).1.xs := by
  unfold awaitC
  repeat' split
  all_goals exact hx.put _ hv
theorem accW_eight (hw : U32s ws) (hx : Eight c.xs) : Eight (accW ws c late i a).c.xs := by
  have h0 := hw.at_ a
  unfold accW
  simp only
  repeat' split
  all_goals first | exact hx | exact hx.put _ h0 | exact hx.put _ (by omega) | exact awaitC_eight h0 hx
end

section
variable {k : Lk} {m : Mc} {t : Nat} {late : Bool} {i : Ins} {a : Nat}
/-- What is behind an access: it stays, or all that is local is done. -/
def behindM (k : Lk) (m : Mc) (t : Nat) (c : Cor) (addr : Int) (wrote stay : Bool) : Mc × Ot :=
  if stay then ({ m with cs := updN m.cs t c }, ⟨[], -1, addr, wrote, true, 0⟩) else runM k m t c ⟨[], 0, addr, wrote, false, 0⟩
theorem acc_is (h : OkM i k.l.length) (h22 : i.op ≠ 22) (h23 : i.op ≠ 23) (c : Cor) :
    accM k m t c late i a = behindM k { m with ws := (accW m.ws c late i a).ws } t (accW m.ws c late i a).c a (accW m.ws c late i a).wrote (accW m.ws c late i a).stay := by
  have hop := h.op
  unfold accM accW behindM
  simp only
  by_cases h16 : i.op = 16
  · simp [h16]
  by_cases h17 : i.op = 17
  · simp [h17]
  by_cases h18 : i.op = 18
  · simp [h18]
  by_cases h19 : i.op = 19
  · simp only [h19]
    by_cases hw : nth m.ws a = nth c.xs i.t.toNat
    · simp [hw]
    · simp [hw]
  by_cases h20 : i.op = 20
  · simp [h20]
  have h21 : i.op = 21 := by omega
  obtain ⟨hk, hp⟩ := h.aw h21
  simp only [if_neg h16, if_neg h17, if_neg h18, if_neg h19, if_neg h20]
  unfold awaitC
  by_cases hw : nth m.ws a = nth c.xs i.t.toNat
  · rcases hk with hk | hk
    · simp [hw, hk]
    · cases late with
      | true =>
        rcases hp with hp | ⟨hp, _⟩
        · simp [hw, hk, hp]
        · have h1 : ¬ i.pl = -1 := by omega
          have h2 : ¬ i.pl < 0 := by omega
          simp [hw, hk, h1, h2]
      | false => simp [hw, hk]
  · rcases hk with hk | hk
    · cases late with
      | true =>
        rcases hp with hp | ⟨hp, _⟩
        · simp [hw, hk, hp]
        · have h1 : ¬ i.pl = -1 := by omega
          have h2 : ¬ i.pl < 0 := by omega
          simp [hw, hk, h1, h2]
      | false => simp [hw, hk]
    · simp [hw, hk]

/-- What the memory's part of a step leaves (none: a trap). -/
structure Dn where
  m : Mc
  c : Cor
  addr : Int
  wrote : Bool
  stay : Bool
def doM (k : Lk) (m : Mc) (t : Nat) (c : Cor) (late : Bool) (i : Ins) : Option Dn :=
  if i.op = 22 then some ⟨{ m with pn := (takeN m.pn t).1 }, ⟨c.xs.set i.d.toNat (takeN m.pn t).2, c.pc + 1⟩, -1, false, false⟩
  else if i.op = 23 then match backN k.each m.pn (nth c.xs i.s.toNat) with
    | none => none
    | some p => some ⟨{ m with pn := p }, ⟨c.xs, c.pc + 1⟩, -1, false, false⟩
  else match findM k.zs i.a (nth c.xs i.s.toNat) with
    | none => none
    | some a => some ⟨{ m with ws := (accW m.ws c late i a).ws }, (accW m.ws c late i a).c, a, (accW m.ws c late i a).wrote, (accW m.ws c late i a).stay⟩
theorem step_none (h : memI k (m.cs t).pc = none) : stepM k m t late = (m, trapO) := by
  unfold stepM
  simp only [h]
theorem step_do (h : memI k (m.cs t).pc = some i) (ho : OkM i k.l.length) : stepM k m t late = match doM k m t (m.cs t) late i with
    | none => (m, trapO)
    | some r => behindM k r.m t r.c r.addr r.wrote r.stay := by
  unfold stepM doM
  simp only [h]
  by_cases h22 : i.op = 22
  · simp [h22, behindM]
  by_cases h23 : i.op = 23
  · simp only [if_neg h22, if_pos h23]
    cases backN k.each m.pn (nth (m.cs t).xs i.s.toNat) with
    | none => rfl
    | some p => simp [behindM]
  · simp only [if_neg h22, if_neg h23]
    cases findM k.zs i.a (nth (m.cs t).xs i.s.toNat) with
    | none => rfl
    | some a => exact acc_is ho h22 h23 _
theorem memI_is {pc : Int} (h : memI k pc = some i) : 0 ≤ pc ∧ pc < k.l.length ∧ k.l[pc.toNat]? = some i ∧ memB i.op = true := by
  unfold memI at h
  by_cases h0 : pc < 0
  · rw [if_pos h0] at h; cases h
  · rw [if_neg h0] at h
    cases hk : k.l[pc.toNat]? with
    | none => rw [hk] at h; cases h
    | some j =>
      rw [hk] at h
      simp only at h
      by_cases hm : memB j.op = true
      · rw [if_pos hm] at h
        injection h with h
        subst h
        have := (List.getElem?_eq_some_iff.1 hk).1
        exact ⟨by omega, by omega, rfl, hm⟩
      · rw [if_neg hm] at h; cases h
theorem memI_none {pc : Int} (h : memI k pc = none) : pc < 0 ∨ (k.l.length : Int) ≤ pc ∨ ∃ j, 0 ≤ pc ∧ pc < k.l.length ∧ k.l[pc.toNat]? = some j ∧ memB j.op = false := by
  unfold memI at h
  by_cases h0 : pc < 0
  · exact .inl h0
  · rw [if_neg h0] at h
    cases hk : k.l[pc.toNat]? with
    | none => exact .inr (.inl (by have := List.getElem?_eq_none_iff.1 hk; omega))
    | some j =>
      rw [hk] at h
      simp only at h
      have := (List.getElem?_eq_some_iff.1 hk).1
      by_cases hm : memB j.op = true
      · rw [if_pos hm] at h; cases h
      · exact .inr (.inr ⟨j, by omega, by omega, rfl, by simpa using hm⟩)

/-- What always holds of a lock at work: words, cores. -/
structure OkMc (k : Lk) (m : Mc) : Prop where
  ws : U32s m.ws
  len : m.ws.length = tot k.zs
  cs : ∀ t, t < k.n → Eight (m.cs t).xs
/-- .. and of a lock. -/
structure OkLk (k : Lk) : Prop where
  code : prgB ⟨k.l, k.lo, k.un⟩ = true
  k32 : ∀ i ∈ k.l, 0 ≤ i.k ∧ i.k < 4294967296
  zs : RightZ k.zs
  few : tot k.zs ≤ 8192
  n1 : 1 ≤ k.n
  n64 : k.n ≤ 64
  each : k.each ≤ 8
theorem OkLk.parts (h : OkLk k) : 1 ≤ k.l.length ∧ k.l.length ≤ 64 ∧ 0 ≤ k.lo ∧ k.lo < k.l.length ∧ 0 ≤ k.un ∧ k.un < k.l.length ∧ ∀ i ∈ k.l, rightB i k.l.length = true := by
  have hc := h.code
  unfold prgB at hc
  simp only [Bool.and_eq_true, decide_eq_true_eq, List.all_eq_true] at hc
  obtain ⟨h1, h2, h3, h4, h5, h6, h7⟩ := hc
  exact ⟨h1, h2, h3, h5, h4, h6, h7⟩
theorem OkLk.ok (h : OkLk k) : ∀ i ∈ k.l, OkI i := fun i hi => ok_of (h.parts.2.2.2.2.2.2 i hi) (h.k32 i hi).1 (h.k32 i hi).2
theorem OkLk.okM (h : OkLk k) {pc : Int} (hm : memI k pc = some i) : OkM i k.l.length := by
  obtain ⟨_, _, h3, h4⟩ := memI_is hm
  have hi := List.mem_of_getElem? h3
  exact okM_of (h.parts.2.2.2.2.2.2 i hi) (h.k32 i hi).1 (h.k32 i hi).2 h4
theorem updN_eight {cs : Nat → Cor} {c : Cor} {n : Nat} (h : ∀ t, t < n → Eight (cs t).xs) (hc : Eight c.xs) (t : Nat) : ∀ s, s < n → Eight (updN cs t c s).xs := fun s hs => by
  unfold updN
  split
  · exact hc
  · exact h s hs
end
end Go.Proofs.YtpinpipjlongaaaGreat

/- Layer 10 as plain lists, third part: what a step that stays comes to, and the step behind it. No walk stands here. -/
namespace Go.Proofs.YtpinpipjlongaaaGreat
set_option linter.unusedVariables false

section
variable {k : Lk} {m : Mc} {t : Nat} {late : Bool}
end
end Go.Proofs.YtpinpipjlongaaaGreat

/- Pool, PoolB, PoolC, PoolSame, one behind the other. -/
/- What each function of layer 5 (pool) returns, and what the pool is then: one contract a function, for every pool, every number of a thread and every word. -/
namespace Go.Proofs.YtpinpipjlongaaaGreat
set_option maxRecDepth 100000
open Go.ChangeShapes Go.WideShapes Go.ChangeAt Go.RowKit

/-- One element is another. -/
def upd {α : Type} (f : Nat → α) (t : Nat) (v : α) : Nat → α := fun i => if i = t then v else f i
theorem upd_same {α : Type} (f : Nat → α) (t : Nat) (v : α) : upd f t v t = v := by simp [upd]
theorem upd_other {α : Type} {f : Nat → α} {t i : Nat} {v : α} (h : i ≠ t) : upd f t v i = f i := by simp [upd, h]

/-- Where a pool lies: the row of rings, the map, each ring, and each ring's places, where there are any. -/
structure PM where
  g : Nat
  b : Nat
  ps : Nat → Nat
  ogs : Nat → Option Nat
/-- The blocks that calls may change. -/
def PM.Has (M : PM) (n i : Nat) : Prop := i = M.b ∨ ∃ j, j < n ∧ (i = M.ps j ∨ M.ogs j = some i)
/-- The first k rings' pointers, as cells. -/
def ptRow (ps : Nat → Nat) (n k : Nat) : Array Value := ((List.range n).map (fun i => if i < k then Value.pointer (some ⟨ps i, 0, none⟩) else .pointer none)).toArray
theorem ptRow_at (ps : Nat → Nat) (n k i : Nat) (h : i < n) : (ptRow ps n k)[i]? = some (if i < k then Value.pointer (some ⟨ps i, 0, none⟩) else .pointer none) := by simp [ptRow, h]
theorem ptRow_made (ps : Nat → Nat) (n : Nat) : madeCells #[.pointer none] n = ptRow ps n 0 := by
  apply Array.ext
  · simp [madeCells, ptRow]
  · intro i h1 h2; simp [madeCells, ptRow, Nat.mod_one]
theorem ptRow_set (ps : Nat → Nat) (n k q : Nat) : (ptRow ps n k).setIfInBounds k (.pointer (some ⟨q, 0, none⟩)) = ptRow (upd ps k q) n (k + 1) := by
  unfold ptRow
  rw [List.setIfInBounds_toArray]
  congr 1
  apply List.ext_getElem?
  intro i
  simp only [List.getElem?_set, List.length_map, List.length_range, List.getElem?_map]
  by_cases hi : i < n
  · rw [List.getElem?_range hi]
    by_cases e : k = i
    · subst e; simp [hi, upd_same]
    · have h1 : (i < k + 1) ↔ i < k := by omega
      have h2 : upd ps k q i = ps i := upd_other (fun h => e h.symm)
      simp [e, h1, h2]
  · rw [List.getElem?_eq_none (by simpa using hi)]
    simp; omega

/-- A pool of n threads with each nodes: fr are the free handles of each thread in order; os says which handles are out, they are c. -/
structure Pl (w : World) (p n each : Nat) (M : PM) (fr : Nat → List Int) (os : Int → Bool) (c : Nat) : Prop where
  ptr : Bk w p 123 #[.int .i64 each, .slice (some ⟨M.g, 0, none⟩) n n, .map (some M.b)]
  row : Bk w M.g 124 (ptRow M.ps n n)
  rings : ∀ i, i < n → RWord.Rg w (M.ps i) (M.ogs i) each (fr i)
  set : Outs w M.b os c
  psne : ∀ i j, i < n → j < n → i ≠ j → M.ps i ≠ M.ps j
  ogne : ∀ i j g, i < n → j < n → i ≠ j → M.ogs i = some g → M.ogs j ≠ some g
  few : n ≤ 64
  one : 1 ≤ n
  eight : each ≤ 8

theorem Rg_hd {w : World} {p : Nat} {og : Option Nat} {r : Nat} {vs : List Int} (h : RWord.Rg w p og r vs) : ∃ cs, Bk w p 179 cs := by
  obtain ⟨n, f, cs, h⟩ := h; exact ⟨_, h.hd⟩
theorem Rg_row {w : World} {p g : Nat} {og : Option Nat} {r : Nat} {vs : List Int} (h : RWord.Rg w p og r vs) (e : og = some g) : ∃ cs, Bk w g 43 cs := by
  obtain ⟨n, f, cs, h⟩ := h; exact ⟨_, h.row g e⟩

section
variable {w w' : World} {p n each c : Nat} {M : PM} {fr : Nat → List Int} {os : Int → Bool}
theorem Pl.c0 (h : Pl w p n each M fr os c) : w.cell? ⟨p, 0, none⟩ = some (.int .i64 each) := by rw [h.ptr.cell]; rfl
theorem Pl.c1 (h : Pl w p n each M fr os c) : w.cell? ⟨p, 1, none⟩ = some (.slice (some ⟨M.g, 0, none⟩) n n) := by rw [h.ptr.cell]; rfl
theorem Pl.c2 (h : Pl w p n each M fr os c) : w.cell? ⟨p, 2, none⟩ = some (.map (some M.b)) := by rw [h.ptr.cell]; rfl
theorem Pl.at_ (h : Pl w p n each M fr os c) {i : Nat} (hi : i < n) : w.cell? ⟨M.g, i, none⟩ = some (.pointer (some ⟨M.ps i, 0, none⟩)) := by rw [h.row.cell, ptRow_at _ _ _ _ hi, if_pos hi]
theorem Pl.drewN (h : Pl w p n each M fr os c) (m : Nat) : Pl (w.drewN m) p n each M fr os c := ⟨h.ptr, h.row, fun i hi => (h.rings i hi).draws m, h.set, h.psne, h.ogne, h.few, h.one, h.eight⟩
theorem Pl.lt (h : Pl w p n each M fr os c) {i : Nat} (k : M.Has n i) : i < w.heap.size := by
  rcases k with rfl | ⟨j, hj, rfl | e⟩
  · exact h.set.lt
  · exact (h.rings j hj).p_lt
  · exact (h.rings j hj).g_lt e
theorem Pl.p_lt (h : Pl w p n each M fr os c) : p < w.heap.size := h.ptr.lt
theorem Pl.g_lt (h : Pl w p n each M fr os c) : M.g < w.heap.size := h.row.lt
/-- Whatever else is cells of another type isn't the pool's. -/
theorem Pl.not_has {q : Nat} {t : TypeId} {cs : Array Value} (h : Pl w p n each M fr os c) (k : Bk w q t cs) (h1 : t ≠ 179) (h2 : t ≠ 43) : ¬ M.Has n q := by
  rintro (e | ⟨j, hj, e | e⟩)
  · exact h.set.not_bk k e.symm
  · obtain ⟨cs', hb⟩ := Rg_hd (h.rings j hj)
    exact Bk.unlike k hb h1 e
  · obtain ⟨cs', hb⟩ := Rg_row (h.rings j hj) e
    exact Bk.unlike k hb h2 rfl
theorem Pl.kept {S : Nat → Prop} (h : Pl w p n each M fr os c) (k : Within w w' S) (h1 : ¬ S p) (h2 : ¬ S M.g) (h3 : ∀ i, M.Has n i → ¬ S i) : Pl w' p n each M fr os c :=
  ⟨h.ptr.within k h1, h.row.within k h2, fun i hi => (h.rings i hi).kept k (h3 _ (.inr ⟨i, hi, .inl rfl⟩)) (fun _ e => h3 _ (.inr ⟨i, hi, .inr e⟩)), h.set.within k (h3 _ (.inl rfl)), h.psne, h.ogne, h.few, h.one, h.eight⟩
theorem Pl.grown (h : Pl w p n each M fr os c) (k : w.grownBy w' none) : Pl w' p n each M fr os c := h.kept (S := fun _ => False) (.of_grown k (by simp)) (by simp) (by simp) (by simp)

/-- One ring has become another. -/
theorem Pl.ring (h : Pl w p n each M fr os c) {t : Nat} (ht : t < n) {og : Option Nat} {vs : List Int} (hr : RWord.Rg w' (M.ps t) og each vs) (k : Moved w (M.ps t) (M.ogs t) w' og) :
    Pl w' p n each { M with ogs := upd M.ogs t og } (upd fr t vs) os c := by
  obtain ⟨k1, k2⟩ := k
  have hin : ∀ i, (i = M.ps t ∨ some i = M.ogs t) → M.Has n i := fun i e => .inr ⟨t, ht, e.imp id Eq.symm⟩
  have hp : ¬ (p = M.ps t ∨ some p = M.ogs t) := fun e => h.not_has h.ptr (by decide) (by decide) (hin _ e)
  have hg : ¬ (M.g = M.ps t ∨ some M.g = M.ogs t) := fun e => h.not_has h.row (by decide) (by decide) (hin _ e)
  have hb : ¬ (M.b = M.ps t ∨ some M.b = M.ogs t) := by
    rintro (e | e)
    · obtain ⟨cs, hc⟩ := Rg_hd (h.rings t ht); exact h.set.not_bk hc e
    · obtain ⟨cs, hc⟩ := Rg_row (h.rings t ht) e.symm; exact h.set.not_bk hc rfl
  refine ⟨h.ptr.within k2 hp, h.row.within k2 hg, fun i hi => ?_, h.set.within k2 hb, h.psne, fun i j g hi hj hne => ?_, h.few, h.one, h.eight⟩
  · by_cases e : i = t
    · subst e; simp only [upd_same]; exact hr
    · simp only [upd_other e]
      refine (h.rings i hi).kept k2 ?_ (fun g eg => ?_)
      · rintro (e' | e')
        · exact h.psne i t hi ht e e'
        · obtain ⟨cs, hc⟩ := Rg_hd (h.rings i hi)
          obtain ⟨cs', hc'⟩ := Rg_row (h.rings t ht) e'.symm
          exact Bk.unlike hc hc' (by decide) rfl
      · rintro (e' | e')
        · obtain ⟨cs, hc⟩ := Rg_row (h.rings i hi) eg
          obtain ⟨cs', hc'⟩ := Rg_hd (h.rings t ht)
          exact Bk.unlike hc hc' (by decide) e'
        · exact h.ogne i t g hi ht e eg e'.symm
  · intro e1 e2
    by_cases ei : i = t
    · subst ei
      simp only [upd_same, upd_other (fun e => hne e.symm)] at e1 e2
      rcases k1 with e | ⟨g', e, hg'⟩
      · rw [e] at e1; exact h.ogne i j g hi hj hne e1 e2
      · rw [e] at e1; injection e1 with e1; subst e1
        have := (h.rings j hj).g_lt e2; omega
    · simp only [upd_other ei] at e1
      by_cases ej : j = t
      · subst ej
        simp only [upd_same] at e2
        rcases k1 with e | ⟨g', e, hg'⟩
        · rw [e] at e2; exact h.ogne i j g hi hj hne e1 e2
        · rw [e] at e2; injection e2 with e2; subst e2
          have := (h.rings i hi).g_lt e1; omega
      · simp only [upd_other ej] at e2
        exact h.ogne i j g hi hj hne e1 e2
/-- The map has become another. -/
theorem Pl.outs (h : Pl w p n each M fr os c) {os' : Int → Bool} {c' : Nat} (ho : Outs w' M.b os' c') (k : Only w w' M.b) : Pl w' p n each M fr os' c' := by
  have k' : Within w w' (fun i => i = M.b) := .of_grown k (by simp)
  refine ⟨h.ptr.within k' (fun e => h.set.not_bk h.ptr e.symm), h.row.within k' (fun e => h.set.not_bk h.row e.symm), fun i hi => ?_, ho, h.psne, h.ogne, h.few, h.one, h.eight⟩
  refine (h.rings i hi).kept k' (fun e => ?_) (fun g eg e => ?_)
  · obtain ⟨cs, hc⟩ := Rg_hd (h.rings i hi); exact h.set.not_bk hc e.symm
  · obtain ⟨cs, hc⟩ := Rg_row (h.rings i hi) eg; exact h.set.not_bk hc e.symm

/-- Behind a call: only what is the pool's has changed; what is the pool's now was so, or is new. -/
def Stays (w : World) (n : Nat) (M : PM) (w' : World) (M' : PM) : Prop := M'.g = M.g ∧ Within w w' (M.Has n) ∧ ∀ i, M'.Has n i → M.Has n i ∨ w.heap.size ≤ i
theorem Stays.refl (w : World) (n : Nat) (M : PM) : Stays w n M w M := ⟨rfl, Within.refl _ _, fun _ h => .inl h⟩
theorem Stays.draws {M' : PM} (h : Stays w n M w' M') (m : Nat) : Stays w n M (w'.drewN m) M' := ⟨h.1, h.2.1.draws m, h.2.2⟩
theorem Stays.then_ {w'' : World} {M' M'' : PM} (h : Stays w n M w' M') (k : Stays w' n M' w'' M'') : Stays w n M w'' M'' :=
  ⟨k.1.trans h.1, h.2.1.then_ k.2.1 h.2.2, fun i hi => by
    rcases k.2.2 i hi with e | e
    · exact h.2.2 i e
    · exact .inr (Nat.le_trans h.2.1.size e)⟩
theorem Stays.ring {t : Nat} (ht : t < n) {og : Option Nat} (k : Moved w (M.ps t) (M.ogs t) w' og) : Stays w n M w' { M with ogs := upd M.ogs t og } := by
  refine ⟨rfl, k.2.wide (fun i e _ => .inr ⟨t, ht, e.imp id Eq.symm⟩), fun i hi => ?_⟩
  rcases hi with e | ⟨j, hj, e | e⟩
  · exact .inl (.inl e)
  · exact .inl (.inr ⟨j, hj, .inl e⟩)
  · by_cases ej : j = t
    · subst ej
      simp only [upd_same] at e
      rcases k.1 with e' | ⟨g', e', hg⟩
      · rw [e'] at e; exact .inl (.inr ⟨j, hj, .inr e⟩)
      · rw [e'] at e; injection e with e; subst e; exact .inr hg
    · simp only [upd_other ej] at e
      exact .inl (.inr ⟨j, hj, .inr e⟩)
theorem Stays.outs (k : Only w w' M.b) : Stays w n M w' M := ⟨rfl, .of_grown k (fun i e => .inl (.inl (by injection e with e; exact e.symm))), fun _ h => .inl h⟩

theorem plThread (h : Pl w p n each M fr os c) (t : Nat) (ht : t < n) :
    Calls Tryz.prog 77 #[.pointer (some ⟨p, 0, none⟩), .int .i64 t] w fun e w' => e = .returned (.bool true) ∧ w = w' := by
  have h0 := h.c1
  have hf := h.few
  go_enter Tryz.func77, Tryz.ntmps77
  go_wp2
  go_ret
  exact ⟨rfl, rfl⟩

theorem plIs (h : Pl w p n each M fr os c) (x : Int) (h0 : 0 ≤ x) (h1 : x < 4294967296) :
    Calls Tryz.prog 80 #[.pointer (some ⟨p, 0, none⟩), .int .u32 x] w fun e w' => e = .returned (.bool (os x)) ∧ w = w' := by
  have c2 := h.c2
  have hl := h.set.look h0 h1
  go_enter Tryz.func80, Tryz.ntmps80
  go_wp2
  go_ret
  exact ⟨rfl, rfl⟩

theorem plOut (h : Pl w p n each M fr os c) (t : Nat) (ht : t < n) :
    Calls Tryz.prog 64 #[.pointer (some ⟨p, 0, none⟩), .int .i64 t] w fun e w' => e = .returned (.int .i64 ((each - (fr t).length : Nat) : Int)) ∧ ∃ m, w' = w.drewN m := by
  have c1 := h.c1
  have c2 := h.at_ ht
  have hf := h.few
  go_enter Tryz.func64, Tryz.ntmps64
  go_wp2_with fail
  refine (plThread h t ht).mono ?_
  rintro e w' ⟨rfl, rfl⟩
  go_wp2_with fail
  refine (RWord.room_rg (h.rings t ht)).mono ?_
  rintro e w' ⟨rfl, m, rfl⟩
  go_wp2
  go_ret
  exact ⟨rfl, _, rfl⟩

theorem plTakeNone (h : Pl w p n each M fr os c) (t : Nat) (ht : t < n) (he : fr t = []) :
    Calls Tryz.prog 52 #[.pointer (some ⟨p, 0, none⟩), .int .i64 t] w fun e w' => e = .returned (.tuple #[.int .u32 0, .int .i64 0]) ∧ w = w' := by
  have c1 := h.c1
  have c2 := h.at_ ht
  have hf := h.few
  have hr := h.rings t ht
  rw [he] at hr
  go_enter Tryz.func52, Tryz.ntmps52
  go_wp2_with fail
  refine (plThread h t ht).mono ?_
  rintro e w' ⟨rfl, rfl⟩
  go_wp2_with fail
  refine (RWord.take_no hr).mono ?_
  rintro e w' ⟨rfl, rfl⟩
  go_wp2
  go_ret2
  exact ⟨rfl, rfl⟩

/-- Behind a Take: the first free one is out. -/
def Taken (w : World) (p n each : Nat) (M : PM) (fr : Nat → List Int) (os : Int → Bool) (c t : Nat) (x : Int) (vs : List Int) (e : Ending) (w' : World) : Prop :=
  ∃ M', e = .returned (.tuple #[.int .u32 x, .int .i64 0]) ∧ Pl w' p n each M' (upd fr t vs) (turn os x true) (c + 1) ∧ Stays w n M w' M'

theorem plTake (h : Pl w p n each M fr os c) (hc : c < 1000000) (t : Nat) (ht : t < n) {x : Int} {vs : List Int} (he : fr t = x :: vs) (h0 : 0 ≤ x) (h1 : x < 4294967296) (hx : os x = false) :
    Calls Tryz.prog 52 #[.pointer (some ⟨p, 0, none⟩), .int .i64 t] w (Taken w p n each M fr os c t x vs) := by
  have c1 := h.c1
  have c2 := h.at_ ht
  have hf := h.few
  have hr := h.rings t ht
  rw [he] at hr
  go_enter Tryz.func52, Tryz.ntmps52
  go_wp2_with fail
  refine (plThread h t ht).mono ?_
  rintro e w' ⟨rfl, rfl⟩
  go_wp2_with fail
  refine (RWord.take_ok hr).mono ?_
  rintro e w2 ⟨rfl, hr2, hw2⟩
  have hmv : Moved w (M.ps t) (M.ogs t) w2 (M.ogs t) := ⟨.inl rfl, hw2⟩
  have hp2 := h.ring ht hr2 hmv
  have hs2 := Stays.ring (n := n) ht hmv
  clear c1 c2 hr
  have d2 := hp2.c2
  obtain ⟨w3, hup, ho, hg⟩ := hp2.set.add hc h0 h1 hx
  simp only at d2 hup ho hg
  have HP := Lib.hid hp2
  have HS := Lib.hid hs2
  clear hp2 hs2
  go_wp2
  go_ret2
  exact ⟨_, rfl, HP.out.outs ho hg, HS.out.then_ (Stays.outs hg)⟩
end
end Go.Proofs.YtpinpipjlongaaaGreat

/- Owner and Free of layer 5 (pool): contracts, for every pool and every word. -/
namespace Go.Proofs.YtpinpipjlongaaaGreat
set_option maxRecDepth 100000
open Go.ChangeShapes Go.WideShapes Go.ChangeAt Go.RowKit
section
variable {w w' : World} {p n each c : Nat} {M : PM} {fr : Nat → List Int} {os : Int → Bool}

/-- No node has the index of this word. -/
def NoNode (n each : Nat) (x : Int) : Prop := x % 4096 < 1 ∨ ((n * each : Nat) : Int) < x % 4096
theorem plOwnerNo (h : Pl w p n each M fr os c) (x : Int) (h0 : 0 ≤ x) (h1 : x < 4294967296) (hx : NoNode n each x) :
    Calls Tryz.prog 79 #[.pointer (some ⟨p, 0, none⟩), .int .u32 x] w fun e w' => e = .returned (.tuple #[.int .i64 0, .bool false]) ∧ ∃ m, w' = w.drewN m := by
  have c0 := h.c0
  have c1 := h.c1
  have hf := h.few
  have he := h.eight
  rcases hx with hx | hx
  · have t1 : decide (x % 4096 < 1) = true := decide_eq_true hx
    go_enter Tryz.func79, Tryz.ntmps79
    go_wp2_with fail
    refine (hIndex x h0 h1 _).mono ?_
    rintro e w' ⟨rfl, rfl⟩
    go_wp2
    go_quiet (fail)
    go_wp2
    go_ret2
    exact ⟨rfl, _, rfl⟩
  · have hb : n * each ≤ 64 * 8 := Nat.mul_le_mul hf he
    have e1 : ((n * each : Nat) : Int) = (n : Int) * (each : Int) := by simp
    have t1 : decide (x % 4096 < 1) = false := by simp; omega
    have t2 : decide (((n : Int) * (each : Int)) < x % 4096) = true := by rw [← e1]; exact decide_eq_true hx
    have t3 : wrap64 ((n : Int) * (each : Int)) = (n : Int) * (each : Int) := IntWalk.wrap64_in _ (by omega)
    clear hx hb e1
    go_enter Tryz.func79, Tryz.ntmps79
    go_wp2_with fail
    refine (hIndex x h0 h1 _).mono ?_
    rintro e w' ⟨rfl, rfl⟩
    go_wp2
    go_quiet (fail)
    go_wp2
    go_ret2
    exact ⟨rfl, _, rfl⟩

/-- Whose node it is. -/
theorem plOwner (h : Pl w p n each M fr os c) (x : Int) (h0 : 0 ≤ x) (h1 : x < 4294967296) {t i : Nat} (hi : i < each) (ht : t < n) (hx : x % 4096 = ((t * each + i + 1 : Nat) : Int)) :
    Calls Tryz.prog 79 #[.pointer (some ⟨p, 0, none⟩), .int .u32 x] w fun e w' => e = .returned (.tuple #[.int .i64 t, .bool true]) ∧ ∃ m, w' = w.drewN m := by
  have c0 := h.c0
  have c1 := h.c1
  have hf := h.few
  have he := h.eight
  have hb : n * each ≤ 64 * 8 := Nat.mul_le_mul hf he
  have hle : t * each + i + 1 ≤ n * each := by
    have : (t + 1) * each ≤ n * each := Nat.mul_le_mul_right _ ht
    rw [Nat.add_mul, Nat.one_mul] at this
    omega
  have e1 : ((n * each : Nat) : Int) = (n : Int) * (each : Int) := by simp
  have t1 : decide (x % 4096 < 1) = false := by simp; omega
  have t2 : decide (((n : Int) * (each : Int)) < x % 4096) = false := by rw [← e1]; simp; omega
  have t3 : wrap64 ((n : Int) * (each : Int)) = (n : Int) * (each : Int) := IntWalk.wrap64_in _ (by omega)
  have hz : ¬ (each : Int) = 0 := by omega
  have hq : (x % 4096 - 1).tdiv (each : Int) = (t : Int) := by
    rw [hx, show ((t * each + i + 1 : Nat) : Int) - 1 = ((t * each + i : Nat) : Int) by omega, ← Int.ofNat_tdiv, Nat.mul_comm, Nat.mul_add_div (by omega), Nat.div_eq_of_lt hi, Nat.add_zero]
  have HX := Lib.hid hx
  have HLE := Lib.hid hle
  clear hb e1 hx hle
  go_enter Tryz.func79, Tryz.ntmps79
  go_wp2_with fail
  refine (hIndex x h0 h1 _).mono ?_
  rintro e w' ⟨rfl, rfl⟩
  go_wp2
  go_quiet (fail)
  go_wp2
  go_ret2
  exact ⟨rfl, _, rfl⟩

theorem plFree0 :
    Calls Tryz.prog 53 #[.pointer (some ⟨p, 0, none⟩), .int .u32 0] w fun e w' => e = .returned (.int .i64 0) ∧ w = w' := by
  go_enter Tryz.func53, Tryz.ntmps53
  go_wp2
  go_ret
  exact ⟨rfl, rfl⟩

/-- A word's index is none's, or somebody's. -/
theorem node_or (n each : Nat) (x : Int) (h : ¬ NoNode n each x) : ∃ t i, t < n ∧ i < each ∧ x % 4096 = ((t * each + i + 1 : Nat) : Int) := by
  unfold NoNode at h
  have h1 : 1 ≤ x % 4096 := by omega
  have h2 : x % 4096 ≤ ((n * each : Nat) : Int) := by omega
  obtain ⟨k, hk⟩ := Int.eq_ofNat_of_zero_le (show 0 ≤ x % 4096 - 1 by omega)
  have hlt : k < n * each := by omega
  have he : 0 < each := Nat.pos_of_ne_zero (fun e => by subst e; simp at hlt)
  refine ⟨k / each, k % each, ?_, Nat.mod_lt _ he, ?_⟩
  · exact (Nat.div_lt_iff_lt_mul he).2 hlt
  · rw [Nat.mul_comm, Nat.div_add_mod]; omega

theorem plFreeNo (h : Pl w p n each M fr os c) (x : Int) (h0 : 0 ≤ x) (h1 : x < 4294967296) (hx : os x = false) (hz : x ≠ 0) :
    Calls Tryz.prog 53 #[.pointer (some ⟨p, 0, none⟩), .int .u32 x] w fun e w' => e = .returned (.int .i64 10) ∧ ∃ m, w' = w.drewN m := by
  have hI := Lib.hid hx
  clear hx
  by_cases hn : NoNode n each x
  · go_enter Tryz.func53, Tryz.ntmps53
    go_wp2_with fail
    refine (plOwnerNo h x h0 h1 hn).mono ?_
    rintro e w' ⟨rfl, m, rfl⟩
    go_wp2
    go_ret
    exact ⟨rfl, _, rfl⟩
  · obtain ⟨t, i, ht, hi, hx⟩ := node_or n each x hn
    have hO := plOwner h x h0 h1 hi ht hx
    clear hx hn
    go_enter Tryz.func53, Tryz.ntmps53
    go_wp2_with fail
    refine hO.mono ?_
    clear hO
    rintro e w' ⟨rfl, m, rfl⟩
    go_wp2_with fail
    refine (plIs (h.drewN m) x h0 h1).mono ?_
    rintro e w' ⟨rfl, rfl⟩
    rw [hI.out]
    go_wp2
    go_ret
    exact ⟨rfl, _, rfl⟩

/-- The handle of the next generation. -/
def nxt (x : Int) : Int := (x / 4096 + 1) % 262144 * 4096 + x % 4096
/-- Behind a Free: the node is free, last of its thread's, with the next generation. -/
def Freed (w : World) (p n each : Nat) (M : PM) (fr : Nat → List Int) (os : Int → Bool) (c t : Nat) (x : Int) (e : Ending) (w' : World) : Prop :=
  ∃ M', e = .returned (.int .i64 0) ∧ Pl w' p n each M' (upd fr t (fr t ++ [nxt x])) (turn os x false) (c - 1) ∧ Stays w n M w' M'

theorem within_drew {w w' : World} {S : Nat → Prop} (h : Within w.drew w' S) : Within w w' S := ⟨h.os, h.tape, h.output, h.size, h.block⟩
theorem moved_drew {w w' : World} {p : Nat} {og og' : Option Nat} (h : Moved w.drew p og w' og') : Moved w p og w' og' := ⟨h.1, within_drew h.2⟩

theorem plFree (h : Pl w p n each M fr os c) (x : Int) (h0 : 0 ≤ x) (h1 : x < 4294967296) (hx : os x = true) {t i : Nat} (hi : i < each) (ht : t < n) (hn : x % 4096 = ((t * each + i + 1 : Nat) : Int)) (hl : (fr t).length < each) :
    Calls Tryz.prog 53 #[.pointer (some ⟨p, 0, none⟩), .int .u32 x] w (Freed w p n each M fr os c t x) := by
  have hz : x ≠ 0 := by omega
  have hO := plOwner h x h0 h1 hi ht hn
  have HX := Lib.hid hx
  have HN := Lib.hid hn
  clear hx hn
  go_enter Tryz.func53, Tryz.ntmps53
  go_wp2_with fail
  refine hO.mono ?_
  clear hO
  rintro e w' ⟨rfl, m, rfl⟩
  have hs1 : Stays w n M (w.drewN m) M := (Stays.refl w n M).draws m
  have h := h.drewN m
  generalize w.drewN m = w1 at h hs1 ⊢
  go_wp2_with fail
  refine (plIs h x h0 h1).mono ?_
  rintro e w' ⟨rfl, rfl⟩
  rw [HX.out]
  have c2 := h.c2
  go_wp2_with (first | (at_delete; refine wpOutsDrop rfl _ _ rfl rfl h.set h0 h1 rfl HX.out ?_; intro w2 ho2 hg2) | go_in)
  have hp2 := h.outs ho2 hg2
  have hs2 := hs1.then_ (Stays.outs hg2)
  clear hs1 h ho2 hg2 c2
  have d1 := hp2.c1
  have d2 := hp2.at_ ht
  have hf := hp2.few
  have hr : RWord.Rg w2.drew (M.ps t) (M.ogs t) each (fr t) := (hp2.rings t ht).draws 1
  have HP := Lib.hid hp2
  have HS := Lib.hid hs2
  clear hp2 hs2
  go_frame
  go_region_held3 (fun w' => w'.cell? ⟨p, 1, none⟩ = some (Value.slice (some ⟨M.g, 0, none⟩) n n) ∧ w'.cell? ⟨M.g, t, none⟩ = some (Value.pointer (some ⟨M.ps t, 0, none⟩))) (first | (exact ⟨f1, f2⟩) | go_keep)
    (first | (go_at_call 81; refine (hNext x h0 h1 _).mono ?_; rintro e w' ⟨rfl, rfl⟩)
           | (go_at_call 75; refine (RWord.put_ok hr hl _).mono ?_; rintro e w4 ⟨og, rfl, hr4, hmv4⟩; have hp4 := HP.out.ring ht hr4 (moved_drew hmv4); have f1 := hp4.c1; have f2 := hp4.at_ ht))
  have hs4 := HS.out.then_ (Stays.ring ht (moved_drew hmv4))
  go_wp2
  go_ret
  exact ⟨_, rfl, hp4, hs4⟩
end
end Go.Proofs.YtpinpipjlongaaaGreat

/- New of layer 5 (pool), and awake: contracts. -/
namespace Go.Proofs.YtpinpipjlongaaaGreat
set_option maxRecDepth 100000
open Go.ChangeShapes Go.WideShapes Go.ChangeAt Go.RowKit

/-- A thread's first k handles, as they are at first. -/
def firsts (t each k : Nat) : List Int := (List.range k).map (fun i => ((t * each + 1 + i : Nat) : Int))
theorem firsts_0 (t each : Nat) : firsts t each 0 = [] := rfl
theorem firsts_succ (t each k : Nat) : firsts t each k ++ [((t * each + 1 + k : Nat) : Int)] = firsts t each (k + 1) := by simp [firsts, List.range_succ]
theorem firsts_len (t each k : Nat) : (firsts t each k).length = k := by simp [firsts]
theorem held_each {each : Nat} (h : each ≤ 8) : RWord.held (each : Int) = each := by unfold RWord.held; rw [if_neg (by omega), if_neg (by omega), Int.toNat_natCast]

/-- A thread's ring as it is at first, all of it new. -/
def FirstPost (w : World) (t each : Nat) (e : Ending) (w' : World) : Prop :=
  ∃ q og, e = .returned (.pointer (some ⟨q, 0, none⟩)) ∧ RWord.Rg w' q og each (firsts t each each) ∧ Fresh w w' q og

theorem fFirst (t each : Nat) (ht : t < 64) (he : each ≤ 8) (w : World) : Calls Tryz.prog 48 #[.int .i64 t, .int .i64 each] w (FirstPost w t each) := by
  have hb : t * each ≤ 64 * 8 := Nat.mul_le_mul (by omega) he
  have e1 : ((t * each : Nat) : Int) = (t : Int) * (each : Int) := by simp
  generalize hm : t * each = m at hb e1
  clear hm
  have t3 : wrap64 ((t : Int) * (each : Int)) = (m : Int) := by rw [← e1]; exact IntWalk.wrap64_in _ (by omega)
  go_enter Tryz.func48, Tryz.ntmps48
  go_wp2_with fail
  refine (RWord.new_any each w).mono ?_
  rintro e w1 ⟨rfl, hr, hg⟩
  rw [held_each he] at hr
  have hF : Fresh w w1 w.heap.size none := ⟨hg, Nat.le_refl _, fun _ e => by cases e⟩
  generalize w.heap.size = q at hr hF ⊢
  go_wp2
  go_loopw [12] (fun i wr => ∃ k : Nat, ∃ og, k ≤ each ∧ i = .int .i64 k ∧ RWord.Rg wr q og each (firsts t each k) ∧ Fresh w wr q og) (fun i _ => each - (intOf i).toNat)
  case atStart => exact ⟨0, none, Nat.zero_le _, rfl, by rw [firsts_0]; exact hr, hF⟩
  case round =>
    obtain ⟨k, og, hk, rfl, hr, hF⟩ := hrel
    by_cases hlt : k < each
    · go_wp2_with fail
      refine (hNewGood _ 0 (by omega) (by omega) (by omega) (by omega) _).mono ?_
      rintro e w2 ⟨rfl, rfl⟩
      go_wp2_with fail
      refine (RWord.put_ok hr (by rw [firsts_len]; exact hlt) _).mono ?_
      rintro e w2 ⟨og2, rfl, hr2, hmv⟩
      have hr3 : RWord.Rg w2 q og2 each (firsts t each (k + 1)) := by
        rw [← firsts_succ, show ((t * each + 1 + k : Nat) : Int) = (t : Int) * (each : Int) + 1 + (k : Int) by simp]
        exact hr2
      go_wp2
      go_roundw
      case rel => exact ⟨k + 1, og2, by omega, by go_num, hr3, hF.moved hmv⟩
      case measure => simp [intOf]; omega
    · obtain rfl : k = each := by omega
      go_wp2
      go_ret
      exact ⟨q, og, rfl, hr, hF⟩

/-- While a pool is made: k rings are there. -/
structure NewIn (w : World) (p n each k : Nat) (M : PM) (wr : World) : Prop where
  ptr : Bk wr p 123 #[.int .i64 each, .slice (some ⟨M.g, 0, none⟩) n n, .map (some M.b)]
  row : Bk wr M.g 124 (ptRow M.ps n k)
  rings : ∀ i, i < k → RWord.Rg wr (M.ps i) (M.ogs i) each (firsts i each each)
  set : Outs wr M.b (fun _ => false) 0
  psne : ∀ i j, i < k → j < k → i ≠ j → M.ps i ≠ M.ps j
  ogne : ∀ i j g, i < k → j < k → i ≠ j → M.ogs i = some g → M.ogs j ≠ some g
  gr : w.grownBy wr none
  new : ∀ i, M.Has k i → w.heap.size ≤ i
  newp : w.heap.size ≤ p
  newg : w.heap.size ≤ M.g

theorem NewIn.step {w wr w2 : World} {p n each k q : Nat} {M : PM} {og : Option Nat} (h : NewIn w p n each k M wr) (hr : RWord.Rg w2 q og each (firsts k each each)) (hF : Fresh wr w2 q og) :
    NewIn w p n each (k + 1) { M with ps := upd M.ps k q, ogs := upd M.ogs k og } (w2.setCell ⟨M.g, k, none⟩ (.pointer (some ⟨q, 0, none⟩))) := by
  have hw : Within wr w2 (fun _ => False) := .of_grown hF.1 (by simp)
  have hrow := (h.row.within hw (by simp))
  have hptr := (h.ptr.within hw (by simp))
  have hset := (h.set.within hw (by simp))
  have hk : Within w2 (w2.setCell ⟨M.g, k, none⟩ (.pointer (some ⟨q, 0, none⟩))) (fun i => i = M.g) := (Within.refl w2 _).put M.g _ _ (.inl rfl)
  have hkeep : ∀ {a : Nat} {o : Option Nat} {vs : List Int}, RWord.Rg w2 a o each vs → RWord.Rg (w2.setCell ⟨M.g, k, none⟩ (.pointer (some ⟨q, 0, none⟩))) a o each vs := by
    intro a o vs hr
    refine hr.kept hk (fun e => ?_) (fun g' e e' => ?_)
    · obtain ⟨cs, hc⟩ := Rg_hd hr; exact Bk.unlike hc hrow (by decide) e
    · obtain ⟨cs, hc⟩ := Rg_row hr e; exact Bk.unlike hc hrow (by decide) e'
  have hold : ∀ i, i < k → M.ps i < wr.heap.size := fun i hi => (h.rings i hi).p_lt
  have holg : ∀ i, i < k → ∀ g, M.ogs i = some g → g < wr.heap.size := fun i hi g e => (h.rings i hi).g_lt e
  refine ⟨hptr.within hk (Bk.unlike hptr hrow (by decide)), ?_, fun i hi => ?_, hset.within hk (hset.not_bk hrow), ?_, ?_, ?_, ?_, h.newp, h.newg⟩
  · have := hrow.put k (.pointer (some ⟨q, 0, none⟩))
    rw [ptRow_set] at this
    exact this
  · by_cases e : i = k
    · subst e; simp only [upd_same]; exact hkeep hr
    · simp only [upd_other e]
      exact hkeep ((h.rings i (by omega)).kept hw (by simp) (by simp))
  · intro i j hi hj hne
    have hq := hF.2.1
    by_cases ei : i = k
    · subst ei
      simp only [upd_same, upd_other (fun e => hne e.symm)]
      have := hold j (by omega); omega
    · simp only [upd_other ei]
      by_cases ej : j = k
      · subst ej; simp only [upd_same]; have := hold i (by omega); omega
      · simp only [upd_other ej]; exact h.psne i j (by omega) (by omega) hne
  · intro i j g hi hj hne
    by_cases ei : i = k
    · subst ei
      simp only [upd_same, upd_other (fun e => hne e.symm)]
      intro e1 e2
      have := hF.2.2 g e1; have := holg j (by omega) g e2; omega
    · simp only [upd_other ei]
      by_cases ej : j = k
      · subst ej; simp only [upd_same]; intro e1 e2
        have := hF.2.2 g e2; have := holg i (by omega) g e1; omega
      · simp only [upd_other ej]; exact h.ogne i j g (by omega) (by omega) hne
  · exact grown_then (grown_then h.gr hF.1 (.inl rfl)) (only_put _ _ _ _) (.inr fun x e => by injection e with e; have := h.newg; omega)
  · have hs := h.gr.size
    rintro i (e | ⟨j, hj, e | e⟩)
    · exact h.new i (.inl e)
    · by_cases ej : j = k
      · subst ej; simp only [upd_same] at e; have := hF.2.1; omega
      · simp only [upd_other ej] at e; exact h.new i (.inr ⟨j, by omega, .inl e⟩)
    · by_cases ej : j = k
      · subst ej; simp only [upd_same] at e; have := hF.2.2 i e; omega
      · simp only [upd_other ej] at e; exact h.new i (.inr ⟨j, by omega, .inr e⟩)

/-- A new pool, in memory of its own. -/
def PlMade (w : World) (n each : Nat) (e : Ending) (w' : World) : Prop :=
  ∃ p M, e = .returned (.tuple #[.pointer (some ⟨p, 0, none⟩), .int .i64 0]) ∧ Pl w' p n each M (fun t => firsts t each each) (fun _ => false) 0 ∧ w.grownBy w' none ∧ (∀ i, M.Has n i → w.heap.size ≤ i) ∧ w.heap.size ≤ p ∧ w.heap.size ≤ M.g

theorem ptinfo : (Tryz.prog.info? 124).map (fun i => (i.zero, i.size, i.bytes)) = some (some (.pointer none), 1, 8) := by kernel_rfl

theorem new_start (w : World) (n each : Nat) :
    NewIn w (w.heap.size + 2) n each 0 ⟨w.heap.size, w.heap.size + 1, fun _ => 0, fun _ => none⟩
      (((w.alloc (.cells (madeCells #[.pointer none] n) 124)).alloc (.map #[] 0)).alloc (.cells #[.int .i64 each, .slice (some ⟨w.heap.size, 0, none⟩) n n, .map (some (w.heap.size + 1))] 123)) := by
  have h1 := Bk.made w 124 (madeCells #[.pointer none] n)
  have g1 := grown_made w (.cells (madeCells #[.pointer none] n) 124) none
  have s1 : (w.alloc (.cells (madeCells #[.pointer none] n) 124)).heap.size = w.heap.size + 1 := by simp
  generalize w.alloc (.cells (madeCells #[.pointer none] n) 124) = w1 at h1 g1 s1 ⊢
  have h2 := Outs.made w1
  have g2 := grown_made w1 (.map #[] 0) none
  have s2 : (w1.alloc (.map #[] 0)).heap.size = w1.heap.size + 1 := by simp
  have h1' := h1.alloc (.map #[] 0)
  rw [s1] at h2
  generalize w1.alloc (.map #[] 0) = w2 at h2 g2 s2 h1' ⊢
  have h3 := Bk.made w2 123 #[.int .i64 each, .slice (some ⟨w.heap.size, 0, none⟩) n n, .map (some (w.heap.size + 1))]
  rw [show w2.heap.size = w.heap.size + 2 by omega] at h3
  rw [ptRow_made (fun _ => 0)] at h1'
  refine ⟨h3, h1'.alloc _, fun i hi => by omega, h2.within (S := fun _ => False) (.of_grown (grown_made _ _ none) (by simp)) (by simp), fun i j hi => by omega, fun i j g hi => by omega, ?_, ?_, by omega, Nat.le_refl _⟩
  · exact grown_then (grown_then g1 g2 (.inl rfl)) (grown_made _ _ none) (.inl rfl)
  · rintro i (e | ⟨j, hj, _⟩)
    · simp only at e; omega
    · omega

theorem fresh_drew {w w' : World} {p : Nat} {og : Option Nat} (h : Fresh w.drew w' p og) : Fresh w w' p og := ⟨⟨h.1.os, h.1.tape, h.1.output, h.1.size, h.1.block⟩, h.2⟩

set_option maxHeartbeats 400000 in
theorem plNew (n each : Nat) (h1 : 1 ≤ n) (hn : n ≤ 64) (he : each ≤ 8) (w : World) : Calls Tryz.prog 22 #[.int .i64 n, .int .i64 each] w (PlMade w n each) := by
  obtain ⟨i0, hi0, hz0, hz1, hz2⟩ := info_parts ptinfo
  have hmk := fun W : World => run_make (P := Tryz.prog) W 120 124 i0 _ Tryz.underlying120 hi0 hz0 .i64 .i64 n n (by omega) (by omega) (by rw [hz2]; omega) (by omega)
  rw [hz1] at hmk
  clear hi0 hz0 hz1 hz2
  have hmm := @run_makeMap Tryz.prog
  have hst := new_start w n each
  rw [show w.heap.size + 2 = w.heap.size + 1 + 1 from rfl] at hst
  have HST := Lib.hid hst
  clear hst
  go_enter Tryz.func22, Tryz.ntmps22
  go_wp2
  clear hmk hmm
  go_loopw [29] (fun i wr => ∃ (k : Nat) (ps : Nat → Nat) (ogs : Nat → Option Nat), k ≤ n ∧ i = .int .i64 k ∧ NewIn w (w.heap.size + 1 + 1) n each k ⟨w.heap.size, w.heap.size + 1, ps, ogs⟩ wr) (fun i _ => n - (intOf i).toNat)
  case atStart =>
    exact ⟨0, fun _ => 0, fun _ => none, Nat.zero_le _, rfl, HST.out⟩
  case round =>
    clear HST
    obtain ⟨k, ps, ogs, hk, rfl, hN⟩ := hrel
    have hpg : w.heap.size + 1 + 1 ≠ w.heap.size := by omega
    generalize w.heap.size + 1 + 1 = p at *
    by_cases hlt : k < n
    · have d1 : wr.cell? ⟨p, 1, none⟩ = some (.slice (some ⟨w.heap.size, 0, none⟩) n n) := by rw [hN.ptr.cell]; rfl
      have HN := Lib.hid hN
      clear hN
      have k1 : ∀ (W : World) (u : Value) (i j : Nat), (W.setCell ⟨w.heap.size, i, none⟩ u).cell? ⟨p, j, none⟩ = W.cell? ⟨p, j, none⟩ := fun W u i j => cell_off hpg
      go_wp2
      go_region_held3 (fun w' => w'.cell? ⟨p, 1, none⟩ = some (Value.slice (some ⟨w.heap.size, 0, none⟩) n n)) (first | (exact f1) | go_keep)
        (first | (go_at_call 48; refine (fFirst k each (by omega) he _).mono ?_; rintro e w2 ⟨q, og, rfl, hr2, hF2⟩; have hF := fresh_drew hF2; have hw2 := hF.1; have hrow := HN.out.row.grown hw2 (by simp); have f1 := (HN.out.ptr.grown hw2 (by simp)).cell 1; have f2 := hrow.cell k; rw [ptRow_at _ _ _ _ hlt] at f2; have f3 := hrow.free k; simp only [List.getElem?_toArray, List.getElem?_cons_zero, List.getElem?_cons_succ] at f1; simp only at f2 f3))
      have hs := HN.out.step hr2 hF
      have HS := Lib.hid hs
      clear hs hr2 hF hw2 hrow f1 f2 f3 k1 d1
      go_wp2
      go_roundw
      case rel => exact ⟨k + 1, _, _, by omega, by go_num, HS.out⟩
      case measure => simp [intOf]; omega
    · obtain rfl : k = n := by omega
      go_wp2
      go_ret2
      exact ⟨p, _, rfl, ⟨hN.ptr, hN.row, hN.rings, hN.set, hN.psne, hN.ogne, hn, h1, he⟩, hN.gr, hN.new, hN.newp, hN.newg⟩

end Go.Proofs.YtpinpipjlongaaaGreat

/- What the pool and the document's own pool have in common: lists and functions alone. Nodes are numbered from 0 on here. -/
namespace Go.Proofs.YtpinpipjlongaaaGreat
set_option maxRecDepth 100000
open Go.ChangeShapes Go.WideShapes Go.ChangeAt Go.RowKit

/-- A node's handle. -/
def hdl (gen : List Int) (q : Nat) : Int := nth gen q * 4096 + ((q : Int) + 1)
/-- Has a node that is out this handle? -/
def isO (N : Nat) (gen out : List Int) (h : Int) : Bool := decide (1 ≤ h % 4096 ∧ h % 4096 ≤ (N : Int) ∧ nth out (h % 4096 - 1).toNat = 1 ∧ hdl gen (h % 4096 - 1).toNat = h)

/-- How many of a list of 0 and 1. -/
def sumTo (xs : List Int) : Nat → Int
  | 0 => 0
  | k + 1 => sumTo xs k + nth xs k

structure Same (n each : Nat) (free : Nat → List Nat) (gen out : List Int) (fr : Nat → List Int) (os : Int → Bool) (c : Nat) : Prop where
  few : n ≤ 64
  eight : each ≤ 8
  lenG : gen.length = n * each
  lenO : out.length = n * each
  gens : ∀ q, 0 ≤ nth gen q ∧ nth gen q < 262144
  outs : ∀ q, nth out q = 0 ∨ nth out q = 1
  frs : ∀ t, t < n → fr t = (free t).map (hdl gen)
  oss : ∀ h, 0 ≤ h → h < 4294967296 → os h = isO (n * each) gen out h
  cnt : (c : Int) = sumTo out (n * each)
  own : ∀ t, t < n → ∀ q, q ∈ free t → t * each ≤ q ∧ q < t * each + each ∧ nth out q = 0
  dup : ∀ t, t < n → (free t).Nodup

theorem sumTo_set {xs : List Int} {q : Nat} (hq : q < xs.length) (v : Int) : ∀ k, k ≤ xs.length → sumTo (xs.set q v) k = sumTo xs k + (if q < k then v - nth xs q else 0)
  | 0, _ => by simp [sumTo]
  | k + 1, hk => by
    unfold sumTo
    rw [sumTo_set hq v k (by omega), nth_set hq]
    by_cases e : q = k
    · subst e; simp; omega
    · rw [if_neg e]
      by_cases h : q < k
      · rw [if_pos h, if_pos (by omega)]; omega
      · rw [if_neg h, if_neg (by omega)]; omega
theorem sumTo_le {xs : List Int} (h : ∀ q, nth xs q = 0 ∨ nth xs q = 1) : ∀ k, 0 ≤ sumTo xs k ∧ sumTo xs k ≤ (k : Int)
  | 0 => by simp [sumTo]
  | k + 1 => by
    have h1 := sumTo_le h k
    have h2 := h k
    unfold sumTo
    omega
theorem sumTo_some {xs : List Int} (h : ∀ q, nth xs q = 0 ∨ nth xs q = 1) {q : Nat} (hq : nth xs q = 1) : ∀ k, q < k → 1 ≤ sumTo xs k
  | 0, hk => by omega
  | k + 1, hk => by
    unfold sumTo
    by_cases e : q = k
    · subst e; have := (sumTo_le h q).1; omega
    · have := sumTo_some h hq k (by omega); have := h k; omega

theorem nodup_len : ∀ (k a : Nat) (l : List Nat), l.Nodup → (∀ q, q ∈ l → a ≤ q ∧ q < a + k) → l.length ≤ k
  | 0, a, l, _, h => by
    cases l with
    | nil => simp
    | cons q r => have := h q (by simp); omega
  | k + 1, a, l, hd, h => by
    have h1 := nodup_len k a (l.erase (a + k)) (hd.erase _) (fun q hq => by
      have hm := (hd.mem_erase_iff.1 hq)
      have := h q hm.2
      have := hm.1
      omega)
    have h2 := List.length_erase_le (a := a + k) (l := l)
    by_cases hm : a + k ∈ l
    · have := List.length_erase_of_mem hm; omega
    · rw [List.erase_of_not_mem hm] at h1; omega

section
variable {n each c : Nat} {free : Nat → List Nat} {gen out : List Int} {fr : Nat → List Int} {os : Int → Bool}
theorem Same.le (h : Same n each free gen out fr os c) : n * each ≤ 512 := Nat.mul_le_mul h.few h.eight
theorem Same.in_ (_h : Same n each free gen out fr os c) {t q : Nat} (ht : t < n) (hq : q < t * each + each) : q < n * each := by
  have : (t + 1) * each ≤ n * each := Nat.mul_le_mul_right _ ht
  rw [Nat.add_mul, Nat.one_mul] at this
  omega
theorem hdl_facts {gen : List Int} (hg : ∀ q, 0 ≤ nth gen q ∧ nth gen q < 262144) {q : Nat} (hq : q < 512) : 0 < hdl gen q ∧ hdl gen q < 4294967296 ∧ hdl gen q % 4096 = (q : Int) + 1 ∧ hdl gen q / 4096 = nth gen q := by
  have := hg q
  unfold hdl
  omega
theorem isO_hdl {N : Nat} {gen out : List Int} (hg : ∀ q, 0 ≤ nth gen q ∧ nth gen q < 262144) {q : Nat} (hq : q < N) (hN : N ≤ 512) : isO N gen out (hdl gen q) = decide (nth out q = 1) := by
  obtain ⟨f1, f2, f3, f4⟩ := hdl_facts hg (q := q) (by omega)
  unfold isO
  rw [f3, show ((q : Int) + 1 - 1).toNat = q by omega, Bool.eq_iff_iff]
  simp
  omega
/-- Two handles of one node, each of which it has. -/
theorem isO_eq {N : Nat} {gen out : List Int} {h : Int} (hh : isO N gen out h = true) : ∃ q : Nat, q < N ∧ h % 4096 = (q : Int) + 1 ∧ nth out q = 1 ∧ hdl gen q = h := by
  unfold isO at hh
  obtain ⟨h1, h2, h3, h4⟩ := of_decide_eq_true hh
  exact ⟨(h % 4096 - 1).toNat, by omega, by omega, h3, h4⟩

/-- A node goes out. -/
theorem Same.take (h : Same n each free gen out fr os c) {t q : Nat} {rest : List Nat} (ht : t < n) (e : free t = q :: rest) :
    q < n * each ∧ nth out q = 0 ∧ fr t = hdl gen q :: rest.map (hdl gen) ∧ os (hdl gen q) = false ∧ Same n each (upd free t rest) gen (out.set q 1) (upd fr t (rest.map (hdl gen))) (turn os (hdl gen q) true) (c + 1) := by
  have hN := h.le
  obtain ⟨o1, o2, o3⟩ := h.own t ht q (by rw [e]; simp)
  have hq := h.in_ ht o2
  obtain ⟨f1, f2, f3, f4⟩ := hdl_facts h.gens (q := q) (by omega)
  have hfr : fr t = hdl gen q :: rest.map (hdl gen) := by rw [h.frs t ht, e]; rfl
  have hos : os (hdl gen q) = false := by rw [h.oss _ (by omega) f2, isO_hdl h.gens hq hN, o3]; rfl
  have hlO := h.lenO
  refine ⟨hq, o3, hfr, hos, h.few, h.eight, h.lenG, by simpa using hlO, h.gens, fun q' => ?_, fun s hs => ?_, fun x x0 x1 => ?_, ?_, fun s hs q' hm => ?_, fun s hs => ?_⟩
  · rw [nth_set (by omega)]
    split
    · exact .inr rfl
    · exact h.outs q'
  · by_cases es : s = t
    · subst es; rw [upd_same, upd_same]
    · rw [upd_other es, upd_other es]; exact h.frs s hs
  · by_cases ex : x = hdl gen q
    · subst ex
      rw [turn_same, isO_hdl h.gens hq hN, nth_set (by omega), if_pos rfl]
      rfl
    · rw [turn_other ex, h.oss x x0 x1]
      unfold isO
      rw [Bool.eq_iff_iff]
      simp only [decide_eq_true_eq]
      constructor
      · rintro ⟨a1, a2, a3, a4⟩
        refine ⟨a1, a2, ?_, a4⟩
        rw [nth_set (by omega)]
        split
        · rfl
        · exact a3
      · rintro ⟨a1, a2, a3, a4⟩
        refine ⟨a1, a2, ?_, a4⟩
        rw [nth_set (by omega), if_neg (fun e' => ex (by rw [← a4, e']))] at a3
        exact a3
  · rw [sumTo_set (by omega) 1 _ (by omega), if_pos (by omega), o3, ← h.cnt]
    omega
  · by_cases es : s = t
    · subst es
      rw [upd_same] at hm
      obtain ⟨b1, b2, b3⟩ := h.own s hs q' (by rw [e]; simp [hm])
      refine ⟨b1, b2, ?_⟩
      have hd := h.dup s hs
      rw [e] at hd
      rw [nth_set (by omega), if_neg (fun e' => by subst e'; exact (List.nodup_cons.1 hd).1 hm)]
      exact b3
    · rw [upd_other es] at hm
      obtain ⟨b1, b2, b3⟩ := h.own s hs q' hm
      refine ⟨b1, b2, ?_⟩
      have hne : q ≠ q' := by
        rintro rfl
        rcases Nat.lt_or_gt_of_ne es with hlt | hlt
        · have := Nat.mul_le_mul_right each (show s + 1 ≤ t from hlt)
          rw [Nat.add_mul, Nat.one_mul] at this; omega
        · have := Nat.mul_le_mul_right each (show t + 1 ≤ s from hlt)
          rw [Nat.add_mul, Nat.one_mul] at this; omega
      rw [nth_set (by omega), if_neg hne]
      exact b3
  · by_cases es : s = t
    · subst es
      have hd := h.dup s hs
      rw [e] at hd
      rw [upd_same]
      exact (List.nodup_cons.1 hd).2
    · rw [upd_other es]; exact h.dup s hs

/-- A node comes back. -/
theorem Same.back (h : Same n each free gen out fr os c) {x : Int} (x0 : 0 ≤ x) (x1 : x < 4294967296) (hx : os x = true) :
    ∃ t i, t < n ∧ i < each ∧ x % 4096 = ((t * each + i + 1 : Nat) : Int) ∧ (fr t).length < each ∧ 1 ≤ c ∧
      Same n each (upd free t (free t ++ [t * each + i])) (gen.set (t * each + i) ((x / 4096 + 1) % 262144)) (out.set (t * each + i) 0) (upd fr t (fr t ++ [nxt x])) (turn os x false) (c - 1) := by
  have hN := h.le
  have hO := hx
  rw [h.oss x x0 x1] at hO
  obtain ⟨q, hq, e1, e2, e3⟩ := isO_eq hO
  obtain ⟨t, i, ht, hi, he⟩ := node_or n each x (by unfold NoNode; omega)
  have hqi : q = t * each + i := by omega
  subst hqi
  have hlG := h.lenG
  have hlO := h.lenO
  have hnot : t * each + i ∉ free t := fun hm => by have := (h.own t ht _ hm).2.2; omega
  have hlen : (fr t).length < each := by
    rw [h.frs t ht, List.length_map]
    have h1 := nodup_len each (t * each) ((t * each + i) :: free t) (List.nodup_cons.2 ⟨hnot, h.dup t ht⟩) (fun q' hm => by
      rcases List.mem_cons.1 hm with rfl | hm
      · omega
      · have := h.own t ht q' hm; omega)
    simp at h1
    omega
  have hc : 1 ≤ c := by
    have h1 := sumTo_some h.outs e2 (n * each) hq
    have h2 := h.cnt
    omega
  obtain ⟨f1, f2, f3, f4⟩ := hdl_facts h.gens (q := t * each + i) (by omega)
  rw [e3] at f4
  have hgr := h.gens (t * each + i)
  have hg' : ∀ q', 0 ≤ nth (gen.set (t * each + i) ((x / 4096 + 1) % 262144)) q' ∧ nth (gen.set (t * each + i) ((x / 4096 + 1) % 262144)) q' < 262144 := fun q' => by
    rw [nth_set (by omega)]
    split
    · omega
    · exact h.gens q'
  have hkeep : ∀ q', q' ≠ t * each + i → hdl (gen.set (t * each + i) ((x / 4096 + 1) % 262144)) q' = hdl gen q' := fun q' hne => by
    unfold hdl; rw [nth_set (by omega), if_neg (fun e => hne e.symm)]
  have hnew : hdl (gen.set (t * each + i) ((x / 4096 + 1) % 262144)) (t * each + i) = nxt x := by
    unfold hdl nxt; rw [nth_set (by omega), if_pos rfl, e1]
  refine ⟨t, i, ht, hi, he, hlen, hc, h.few, h.eight, by simpa using hlG, by simpa using hlO, hg', fun q' => ?_, fun s hs => ?_, fun y y0 y1 => ?_, ?_, fun s hs q' hm => ?_, fun s hs => ?_⟩
  · rw [nth_set (by omega)]
    split
    · exact .inl rfl
    · exact h.outs q'
  · by_cases es : s = t
    · subst es
      rw [upd_same, upd_same, h.frs s hs, List.map_append, List.map_cons, List.map_nil, hnew]
      congr 1
      exact List.map_congr_left fun q' hm => (hkeep q' (fun e => hnot (e ▸ hm))).symm
    · rw [upd_other es, upd_other es, h.frs s hs]
      refine List.map_congr_left fun q' hm => (hkeep q' (fun e => ?_)).symm
      have := (h.own s hs q' hm).2.2
      rw [e] at this
      omega
  · by_cases ey : y = x
    · subst ey
      rw [turn_same]
      symm
      unfold isO
      rw [e1, show (((t * each + i : Nat) : Int) + 1 - 1).toNat = t * each + i by omega, nth_set (v := 0) (xs := out) (by omega), if_pos rfl]
      simp
    · rw [turn_other ey, h.oss y y0 y1]
      unfold isO
      rw [Bool.eq_iff_iff]
      simp only [decide_eq_true_eq]
      constructor
      · rintro ⟨a1, a2, a3, a4⟩
        have hne : (y % 4096 - 1).toNat ≠ t * each + i := fun e => ey (by rw [← a4, e, e3])
        refine ⟨a1, a2, ?_, ?_⟩
        · rw [nth_set (by omega), if_neg (fun e => hne e.symm)]; exact a3
        · rw [hkeep _ hne]; exact a4
      · rintro ⟨a1, a2, a3, a4⟩
        have hne : (y % 4096 - 1).toNat ≠ t * each + i := fun e => by
          rw [e, nth_set (by omega), if_pos rfl] at a3; omega
        refine ⟨a1, a2, ?_, ?_⟩
        · rw [nth_set (by omega), if_neg (fun e => hne e.symm)] at a3; exact a3
        · rw [hkeep _ hne] at a4; exact a4
  · rw [sumTo_set (by omega) 0 _ (by omega), if_pos (by omega), e2, ← h.cnt]
    omega
  · have hcase : q' ≠ t * each + i → nth (out.set (t * each + i) 0) q' = nth out q' := fun hne => by rw [nth_set (by omega), if_neg (fun e => hne e.symm)]
    by_cases es : s = t
    · subst es
      rw [upd_same] at hm
      rcases List.mem_append.1 hm with hm | hm
      · obtain ⟨b1, b2, b3⟩ := h.own s hs q' hm
        refine ⟨b1, b2, ?_⟩
        rw [hcase (fun e => hnot (e ▸ hm))]; exact b3
      · simp at hm
        subst hm
        refine ⟨by omega, by omega, ?_⟩
        rw [nth_set (by omega), if_pos rfl]
    · rw [upd_other es] at hm
      obtain ⟨b1, b2, b3⟩ := h.own s hs q' hm
      refine ⟨b1, b2, ?_⟩
      rw [hcase (fun e => by rw [e] at b3; omega)]; exact b3
  · by_cases es : s = t
    · subst es
      rw [upd_same]
      refine List.nodup_append.2 ⟨h.dup s hs, by simp, fun a ha b hb => ?_⟩
      simp at hb
      subst hb
      exact fun e => hnot (e ▸ ha)
    · rw [upd_other es]; exact h.dup s hs

/-- At first all are free, of generation 0. -/
def freeNew (each : Nat) : Nat → List Nat := fun t => (List.range each).map fun i => t * each + i
theorem nth_zeros (k q : Nat) : nth (List.replicate k 0) q = 0 := by
  simp [nth, List.getD_eq_getElem?_getD, List.getElem?_replicate]; split <;> rfl
theorem sumTo_zeros (N : Nat) : ∀ k, sumTo (List.replicate N 0) k = 0
  | 0 => rfl
  | k + 1 => by unfold sumTo; rw [sumTo_zeros N k, nth_zeros]; rfl
theorem same_new (n each : Nat) (hn : n ≤ 64) (he : each ≤ 8) : Same n each (freeNew each) (List.replicate (n * each) 0) (List.replicate (n * each) 0) (fun t => firsts t each each) (fun _ => false) 0 := by
  refine ⟨hn, he, by simp, by simp, fun q => by rw [nth_zeros]; omega, fun q => .inl (nth_zeros _ _), fun t ht => ?_, fun h h0 h1 => ?_, by rw [sumTo_zeros]; rfl, fun t ht q hq => ?_, fun t ht => ?_⟩
  · unfold firsts freeNew
    rw [List.map_map]
    refine List.map_congr_left fun i hi => ?_
    simp only [Function.comp, hdl, nth_zeros]
    omega
  · unfold isO
    simp [nth_zeros]
  · unfold freeNew at hq
    simp only [List.mem_map, List.mem_range] at hq
    obtain ⟨i, hi, rfl⟩ := hq
    exact ⟨by omega, by omega, nth_zeros _ _⟩
  · unfold freeNew
    exact List.Pairwise.map _ (fun a b hab e => hab (by omega)) List.nodup_range
end
end Go.Proofs.YtpinpipjlongaaaGreat

/- A region that draws its order, whose stores (or calls that change memory) come in one order of their own, while all else may come at whatever place: over any program. -/
namespace Go.Proofs.YtpinpipjlongaaaGreat
open Go.ChangeShapes Go.WideShapes Go.ChangeAt Go.RowKit
set_option linter.unusedVariables false

/-- How many of the changing ones are done for sure ahead of operation i; how many at most. -/
def loOf (ops : Array Oper) (st : List Nat) (i : Nat) : Nat := (st.filter fun s => (depsOf ops i).contains s).length
def hiOf (ops : Array Oper) (st : List Nat) (i : Nat) : Nat := st.findIdx fun s => (depsOf ops s).contains i
/-- Each of the changing ones waits for the one ahead of it. -/
def chainS (ops : Array Oper) : List Nat → Bool
  | s :: t :: l => (depsOf ops t).contains s && (decide (s < ops.size) && chainS ops (t :: l))
  | [s] => decide (s < ops.size)
  | [] => true
/-- What is to be shown of each operation. -/
def eachFlow (P : Program) (ops : Array Oper) (F : Nat → Value → World → Prop) (Wp : Nat → World → Prop) (Step : Nat → World → World → Prop) (lit : (Nat → Value) → Act) (st : List Nat) : List Oper → Nat → Prop
  | [], _ => True
  | o :: l, i => (match st.contains i with
    | true => ∀ (vs : Nat → Value) W, Wp (st.idxOf i) W → (∀ j ∈ depsOf ops i, F j (vs j) W) → leavesIf P ops (fun v W' => F i v W' ∧ Wp (st.idxOf i + 1) W' ∧ Step (st.idxOf i) W W') o (lit vs) W
    | false => ∀ (vs : Nat → Value) W k, loOf ops st i ≤ k → k ≤ hiOf ops st i → Wp k W → (∀ j ∈ depsOf ops i, F j (vs j) W) → leavesOp P ops (F i) o (lit vs) W) ∧ eachFlow P ops F Wp Step lit st l (i + 1)
theorem eachFlow_at {P : Program} {ops : Array Oper} {F : Nat → Value → World → Prop} {Wp : Nat → World → Prop} {Step : Nat → World → World → Prop} {lit : (Nat → Value) → Act} {st : List Nat} : ∀ (l : List Oper) (b i : Nat) (o : Oper), eachFlow P ops F Wp Step lit st l b → l[i]? = some o →
    (st.contains (b + i) = true → ∀ (vs : Nat → Value) W, Wp (st.idxOf (b + i)) W → (∀ j ∈ depsOf ops (b + i), F j (vs j) W) → leavesIf P ops (fun v W' => F (b + i) v W' ∧ Wp (st.idxOf (b + i) + 1) W' ∧ Step (st.idxOf (b + i)) W W') o (lit vs) W) ∧
    (st.contains (b + i) = false → ∀ (vs : Nat → Value) W k, loOf ops st (b + i) ≤ k → k ≤ hiOf ops st (b + i) → Wp k W → (∀ j ∈ depsOf ops (b + i), F j (vs j) W) → leavesOp P ops (F (b + i)) o (lit vs) W)
  | [], b, i, o, _, hi => by simp at hi
  | x :: l, b, 0, o, h, hi => by
    simp only [List.getElem?_cons_zero, Option.some.injEq] at hi
    subst hi
    have h1 := h.1
    simp only [Nat.add_zero]
    constructor
    · intro e; rw [e] at h1; exact h1
    · intro e; rw [e] at h1; exact h1
  | x :: l, b, i + 1, o, h, hi => by
    have := eachFlow_at l (b + 1) i o h.2 (by simpa using hi)
    rw [show b + 1 + i = b + (i + 1) by omega] at this
    exact this

theorem chainS_at {ops : Array Oper} : ∀ (st : List Nat), chainS ops st = true → ∀ (j s t : Nat), st[j]? = some s → st[j + 1]? = some t → s ∈ depsOf ops t
  | [], _, j, s, t, h, _ => by simp at h
  | [x], _, j, s, t, _, h => by simp at h
  | x :: y :: l, h, 0, s, t, h1, h2 => by
    simp at h1 h2
    subst h1; subst h2
    simp only [chainS, Bool.and_eq_true] at h
    simpa using h.1
  | x :: y :: l, h, j + 1, s, t, h1, h2 => by
    simp only [chainS, Bool.and_eq_true] at h
    exact chainS_at (y :: l) h.2.2 j s t (by simpa using h1) (by simpa using h2)
theorem chainS_lt {ops : Array Oper} : ∀ (st : List Nat), chainS ops st = true → ∀ s ∈ st, s < ops.size
  | [], _, s, h => by simp at h
  | [x], h, s, hs => by simp at hs; subst hs; simpa [chainS] using h
  | x :: y :: l, h, s, hs => by
    simp only [chainS, Bool.and_eq_true, decide_eq_true_eq] at h
    rcases List.mem_cons.1 hs with rfl | hs
    · exact h.2.1
    · exact chainS_lt (y :: l) h.2.2 s hs

theorem wp_region_flow {P : Program} {l : List Oper} {Q : Exit → Act → World → Prop} {id : Nat} {a : Act} {w : World} (st : List Nat) (Wp : Nat → World → Prop) (Step : Nat → World → World → Prop) (lit : (Nat → Value) → Act) (F : Nat → Value → World → Prop)
    (hm : P.follows .mixedOrders = true) (hr : relyB l.toArray = true) (hc : chainS l.toArray st = true) (hnd : st.Nodup) (hlit : ∀ vs, frameOf l.toArray a (fun _ => true) vs = lit vs)
    (h0 : Wp 0 w)
    (hW : ∀ k W W', Wp k W → Below W.heap.size W W' → Wp k W')
    (hF : ∀ i v W W', F i v W → Below W.heap.size W W' → F i v W')
    (hS : ∀ k W W', Wp k W → Step k W W' → ∀ i v, F i v W → F i v W')
    (hop : eachFlow P l.toArray F Wp Step lit st l 0)
    (hend : ∀ (vs : Nat → Value) W, Wp st.length W → (∀ i, i < l.length → F i (vs i) W) → Q .normal (lit vs) W) : (Code.region id l.toArray true).wp P Q a w := by
  refine wp_region_holds hm hr (fun d vs W => ∃ k, k ≤ st.length ∧ (∀ j s, st[j]? = some s → (d s = true ↔ j < k)) ∧ (∀ i, d i = true → ∀ j ∈ depsOf l.toArray i, d j = true) ∧ Wp k W ∧ ∀ i, d i = true → F i (vs i) W) ?_ ?_ ?_
  · exact ⟨0, Nat.zero_le _, fun j s _ => by simp, (fun i h => by cases h), hW 0 _ _ h0 (Below.refl _ _).drew, (fun i h => by cases h)⟩
  · rintro i o ho d vs W ⟨k, hk, hst, hcl, hWk, hFd⟩ hdi hdep
    have ho' : l[i]? = some o := by simpa using ho
    rw [hlit]
    obtain ⟨e1, e2⟩ := eachFlow_at l 0 i o hop ho'
    rw [Nat.zero_add] at e1 e2
    have hFdep : ∀ j ∈ depsOf l.toArray i, F j (vs j) W := fun j hj => hFd j (hdep j hj)
    cases hci : st.contains i with
    | true =>
      have hmem : i ∈ st := by simpa using hci
      have hidx : st.idxOf i < st.length := List.idxOf_lt_length_iff.2 hmem
      have hat : st[st.idxOf i]? = some i := by rw [List.getElem?_eq_getElem hidx, List.getElem_idxOf hidx]
      -- it is the next one
      have hki : st.idxOf i = k := by
        have h1 : ¬ st.idxOf i < k := fun h => by
          have := (hst _ i hat).2 h
          rw [hdi] at this; cases this
        rcases Nat.lt_or_eq_of_le (Nat.le_of_not_lt h1) with h2 | h2
        · exfalso
          -- the one ahead is done, so all ahead are
          have hp : st.idxOf i - 1 + 1 = st.idxOf i := by omega
          have hpl : st.idxOf i - 1 < st.length := by omega
          have hs := chainS_at st hc (st.idxOf i - 1) st[st.idxOf i - 1] i (List.getElem?_eq_getElem hpl) (by rw [hp]; exact hat)
          have hd := hdep _ hs
          have := (hst _ _ (List.getElem?_eq_getElem hpl)).1 hd
          omega
        · exact h2.symm
      have h3 := e1 hci vs W (by rw [hki]; exact hWk) hFdep
      refine leavesIf_mono h3 ?_
      rintro v W' ⟨hv, hW2, hstep⟩
      rw [hki] at hW2 hstep
      refine ⟨k + 1, by omega, fun j s hs => ?_, fun x hx j hj => by
        by_cases e : x = i
        · subst e; have h4 := hdep j hj; by_cases e2 : j = x <;> simp [e2, h4]
        · simp only [if_neg e] at hx; have h4 := hcl x hx j hj; by_cases e2 : j = i <;> simp [e2, h4], hW2, fun j hj => ?_⟩
      · by_cases e : s = i
        · subst e
          have hj : j = k := by
            rw [← hki]
            have hjl := (List.getElem?_eq_some_iff.1 hs).1
            have hsj := (List.getElem?_eq_some_iff.1 hs).2
            have := hnd.idxOf_getElem j hjl
            rw [hsj] at this
            exact this.symm
          simp; omega
        · simp only [if_neg e]
          rw [hst j s hs]
          constructor
          · omega
          · intro h
            by_cases hj : j = k
            · exfalso
              subst hj
              rw [← hki, hat] at hs
              injection hs with hs
              exact e hs.symm
            · omega
      · by_cases e : j = i
        · subst e; simp only [if_true]; exact hv
        · simp only [if_neg e] at hj ⊢
          exact hS k W W' hWk hstep j _ (hFd j hj)
    | false =>
      have hnm : i ∉ st := by simpa using hci
      have hlo : loOf l.toArray st i ≤ k := by
        unfold loOf
        have hsub : ∀ (s : List Nat) (b : Nat), (∀ j x, s[j]? = some x → st[b + j]? = some x) → (s.filter fun x => (depsOf l.toArray i).contains x).length ≤ k - b := by
          intro s
          induction s with
          | nil => intro b _; simp
          | cons x s ih =>
            intro b hb
            have hx := hb 0 x (by simp)
            rw [Nat.add_zero] at hx
            have ih2 := ih (b + 1) (fun j y hy => by rw [show b + 1 + j = b + (j + 1) by omega]; exact hb (j + 1) y (by simpa using hy))
            rw [List.filter_cons]
            split
            · rename_i hcx
              have hd := hdep x (by simpa using hcx)
              have := (hst b x hx).1 hd
              simp only [List.length_cons]
              omega
            · omega
        have := hsub st 0 (fun j x h => by rw [Nat.zero_add]; exact h)
        omega
      have hhi : k ≤ hiOf l.toArray st i := by
        unfold hiOf
        rcases Nat.lt_or_ge (st.findIdx fun s => (depsOf l.toArray s).contains i) st.length with h | h
        · refine Nat.le_of_not_lt fun hlt => ?_
          have hp := List.findIdx_getElem (w := h)
          have hd := (hst _ _ (List.getElem?_eq_getElem h)).2 hlt
          -- what is done had all that it waits for done
          have := hcl _ hd i (by simpa using hp)
          rw [hdi] at this
          cases this
        · omega
      exact leavesIf_of (e2 hci vs W k hlo hhi hWk hFdep) (fun v W' hv hb => ⟨k, hk, fun j s hs => by
        have hne : s ≠ i := fun e => hnm (e ▸ List.mem_of_getElem? hs)
        simp only [if_neg hne]
        exact hst j s hs, fun x hx j hj => by
        by_cases e : x = i
        · subst e; have h4 := hdep j hj; by_cases e2 : j = x <;> simp [e2, h4]
        · simp only [if_neg e] at hx; have h4 := hcl x hx j hj; by_cases e2 : j = i <;> simp [e2, h4], hW k W W' hWk hb, fun j hj => by
        by_cases e : j = i
        · subst e; simp only [if_true]; exact hv
        · simp only [if_neg e] at hj ⊢
          exact hF j _ W W' (hFd j hj) hb⟩)
  · rintro d vs W ⟨k, hk, hst, hcl, hWk, hFd⟩ hall
    rw [hlit]
    have hks : k = st.length := by
      rcases Nat.lt_or_eq_of_le hk with h | h
      · exfalso
        have h1 := (hst k _ (List.getElem?_eq_getElem h))
        have h2 := hall st[k] (chainS_lt st hc _ (List.getElem_mem h))
        have := h1.1 h2
        omega
      · exact h
    rw [hks] at hWk
    exact hend vs W hWk (fun i hi => hFd i (hall i (by simpa using hi)))
end Go.Proofs.YtpinpipjlongaaaGreat

/- A region that draws its order, makes one block and stores into it values that aren't known ahead: over any program. -/
namespace Go.Proofs.YtpinpipjlongaaaGreat
open Go.ChangeShapes Go.WideShapes Go.ChangeAt Go.RowKit
set_option linter.unusedVariables false

/-- Operation na makes a block of cells cs0, operation ns stores into it (what it is then: 'R', 'done'); all others leave what F says, and change nothing. -/
theorem wp_region_lay {P : Program} {l : List Oper} {Q : Exit → Act → World → Prop} {id : Nat} {a : Act} {w : World} (na ns : Nat) (t : TypeId) (cs0 : Array Value) (R : World → Nat → World → Prop) (done : World → Nat → Prop) (lit : (Nat → Value) → Act) (F : Nat → Value → World → Prop)
    (hm : P.follows .mixedOrders = true) (hr : relyB l.toArray = true) (hns : (na != ns && (depsOf l.toArray ns).contains na) = true) (hlen : (decide (na < l.length) && decide (ns < l.length)) = true) (hlit : ∀ vs, frameOf l.toArray a (fun _ => true) vs = lit vs)
    (hst : ∀ i v W W', F i v W → Below W.heap.size W W' → F i v W')
    (hst2 : ∀ i v W W' b, F i v W → Bk W b t cs0 → R W b W' → F i v W')
    (hd1 : ∀ W W' b, done W b → Below W.heap.size W W' → done W' b)
    (hbel : ∀ W W' b, w.heap.size ≤ b → R W b W' → Below w.heap.size w W → Below w.heap.size w W')
    (hdone : ∀ W W' b, Bk W b t cs0 → R W b W' → done W' b)
    (hnew : ∀ o, l[na]? = some o → ∀ (vs : Nat → Value) W, Below w.heap.size w W → leavesOp P l.toArray (fun v W' => ∃ b, v = .pointer (some ⟨b, 0, none⟩) ∧ w.heap.size ≤ b ∧ Bk W' b t cs0) o (lit vs) W)
    (hsto : ∀ o, l[ns]? = some o → ∀ (vs : Nat → Value) W b, Below w.heap.size w W → (∀ j ∈ depsOf l.toArray ns, (decide (j = na) || decide (j = ns)) = false → F j (vs j) W) → vs na = .pointer (some ⟨b, 0, none⟩) → Bk W b t cs0 → leavesIf P l.toArray (fun _ W' => R W b W') o (lit vs) W)
    (hop : eachBut P l.toArray F lit w (fun j => decide (j = na) || decide (j = ns)) l 0)
    (hend : ∀ (vs : Nat → Value) W b, Below w.heap.size w W → (∀ i, i < l.length → (decide (i = na) || decide (i = ns)) = false → F i (vs i) W) → vs na = .pointer (some ⟨b, 0, none⟩) → w.heap.size ≤ b → done W b → Q .normal (lit vs) W) : (Code.region id l.toArray true).wp P Q a w := by
  simp only [Bool.and_eq_true, bne_iff_ne, ne_eq, List.contains_iff_mem, decide_eq_true_eq] at hns hlen
  obtain ⟨hne, hdn⟩ := hns
  refine wp_region_holds hm hr (fun d vs W => Below w.heap.size w W ∧ (∀ i, d i = true → (decide (i = na) || decide (i = ns)) = false → F i (vs i) W) ∧ (d na = true → ∃ b, vs na = .pointer (some ⟨b, 0, none⟩) ∧ w.heap.size ≤ b ∧ ((d ns = false ∧ Bk W b t cs0) ∨ (d ns = true ∧ done W b))) ∧ (d ns = true → d na = true)) ?_ ?_ ?_
  · exact ⟨(Below.refl _ _).drew, (fun i h => by cases h), (fun h => by cases h), (fun h => by cases h)⟩
  · rintro i o ho d vs W ⟨hB, hF, hA, hS⟩ hdi hdep
    have ho' : l[i]? = some o := by simpa using ho
    rw [hlit]
    by_cases hina : i = na
    · subst hina
      have hdns : d ns = false := by
        cases e : d ns with
        | false => rfl
        | true => rw [hS e] at hdi; cases hdi
      refine leavesIf_of (hnew o ho' vs W hB) ?_
      rintro v W' ⟨b, hv, hb, hk⟩ hbw
      dsimp only
      refine ⟨hB.trans (hbw.mono hB.size), fun j hj hsk => ?_, fun _ => ⟨b, by rw [if_pos rfl]; exact hv, hb, .inl ⟨by rw [if_neg (fun e => hne e.symm)]; exact hdns, hk⟩⟩, fun _ => by rw [if_pos rfl]⟩
      have hji : j ≠ i := fun e => by subst e; simp at hsk
      rw [if_neg hji] at hj ⊢
      exact hst j _ _ _ (hF j hj hsk) hbw
    · by_cases hins : i = ns
      · subst hins
        have hdna := hdep na hdn
        obtain ⟨b, hv, hb, ⟨_, hk⟩ | ⟨h, _⟩⟩ := hA hdna
        · refine leavesIf_mono (hsto o ho' vs W b hB (fun j hj hsk => hF j (hdep j hj) hsk) hv hk) ?_
          intro v W' hR
          dsimp only
          refine ⟨hbel W W' b hb hR hB, fun j hj hsk => ?_, fun _ => ⟨b, by rw [if_neg hne]; exact hv, hb, .inr ⟨by rw [if_pos rfl], hdone W W' b hk hR⟩⟩, fun _ => by rw [if_neg hne]; exact hdna⟩
          have hji : j ≠ i := fun e => by subst e; simp at hsk
          rw [if_neg hji] at hj ⊢
          exact hst2 j _ _ _ _ (hF j hj hsk) hk hR
        · rw [hdi] at h; cases h
      · have hsk0 : (decide (i = na) || decide (i = ns)) = false := by simp [hina, hins]
        have := eachBut_at l 0 hop i o ho' (by rw [Nat.zero_add]; exact hsk0) vs W hB (by rw [Nat.zero_add]; exact fun j hj hsk => hF j (hdep j hj) hsk)
        rw [Nat.zero_add] at this
        refine leavesIf_of this ?_
        intro v W' hv hbw
        dsimp only
        refine ⟨hB.trans (hbw.mono hB.size), fun j hj hsk => ?_, fun h => ?_, fun h => ?_⟩
        · by_cases e : j = i
          · subst e; rw [if_pos rfl]; exact hv
          · rw [if_neg e] at hj ⊢
            exact hst j _ _ _ (hF j hj hsk) hbw
        · rw [if_neg (fun e => hina e.symm)] at h ⊢
          obtain ⟨b, h1, h2, h3⟩ := hA h
          rw [if_neg (fun e => hins e.symm)]
          refine ⟨b, h1, h2, ?_⟩
          rcases h3 with ⟨h3, h4⟩ | ⟨h3, h4⟩
          · exact .inl ⟨h3, (hbw.block b h4.lt).trans h4⟩
          · exact .inr ⟨h3, hd1 _ _ _ h4 hbw⟩
        · rw [if_neg (fun e => hins e.symm)] at h
          rw [if_neg (fun e => hina e.symm)]
          exact hS h
  · rintro d vs W ⟨hB, hF, hA, hS⟩ hall
    rw [hlit]
    obtain ⟨b, h1, h2, ⟨h3, _⟩ | ⟨_, h4⟩⟩ := hA (hall na (by simpa using hlen.1))
    · rw [hall ns (by simpa using hlen.2)] at h3; cases h3
    · exact hend vs W b hB (fun i hi hsk => hF i (hall i (by simpa using hi)) hsk) h1 h2 h4
end Go.Proofs.YtpinpipjlongaaaGreat

/- Programs in memory: a slice of instructions that lies anywhere; alike or not. -/
namespace Go.Proofs.YtpinpipjlongaaaGreat
open Go.ChangeShapes Go.WideShapes Go.ChangeAt Go.RowKit
set_option linter.unusedVariables false

/-- The slice at a has just the instructions l. -/
def Sli (w : World) (a : Option Addr) (l : List Ins) : Prop :=
  0 < l.length → ∃ b off, a = some ⟨b, off, none⟩ ∧ b < w.heap.size ∧ ∀ k i, l[k]? = some i → ∀ j, j < 8 → w.cell? ⟨b, off + k * 8 + j, none⟩ = (insC i)[j]?
/-- The value v is the program c; its instructions may lie anywhere. -/
def Pv (w : World) (v : Value) (c : Prg) : Prop := ∃ a cap, v = .agg #[.slice a c.l.length cap, .int .i64 c.lo, .int .i64 c.un] ∧ c.l.length ≤ cap ∧ cap ≤ maxLen ∧ (a = none → cap = 0) ∧ Sli w a c.l
section
variable {w w' : World} {a : Option Addr} {l : List Ins} {v : Value} {c : Prg}
theorem Sli.below (h : Sli w a l) (hb : Below w.heap.size w w') : Sli w' a l := by
  intro h0
  obtain ⟨b, off, e, hlt, hc⟩ := h h0
  exact ⟨b, off, e, Nat.lt_of_lt_of_le hlt hb.size, fun k i hk j hj => (hb.cell (p := ⟨b, off + k * 8 + j, none⟩) hlt).trans (hc k i hk j hj)⟩
theorem Pv.below (h : Pv w v c) (hb : Below w.heap.size w w') : Pv w' v c := by
  obtain ⟨a, cap, e, h1, h2, h4, h3⟩ := h
  exact ⟨a, cap, e, h1, h2, h4, h3.below hb⟩
theorem sli_own {t : TypeId} {base cap : Nat} (h : w.ownsRow base t 8 (.slice a l.length cap) l.length (progC l)) : Sli w a l := by
  intro h0
  obtain ⟨a2, cap2, e, _, _, hg⟩ := own_is h
  simp only [Value.slice.injEq] at e
  obtain ⟨rfl, -, rfl⟩ := e
  obtain ⟨g, rfl, _, _, hlt, _, hc⟩ := hg h0
  refine ⟨g, 0, rfl, hlt, fun k i hk j hj => ?_⟩
  have hkl := (List.getElem?_eq_some_iff.1 hk).1
  rw [Nat.zero_add, hc _ (by omega), progC_at hk hj]
theorem own_nil {t : TypeId} {base n cap size : Nat} {xs : List Value} (h : w.ownsRow base t size (.slice a n cap) n xs) (e : a = none) : cap = 0 := by
  subst e
  rcases h.2 with ⟨h, _⟩ | ⟨g, c, cur, h, _⟩
  · injection h
  · injection h with h; cases h
theorem Pg.pv {base : Nat} (h : Pg w base v c) : Pv w v c := by
  obtain ⟨sl, rfl, ho⟩ := h
  obtain ⟨a, cap, rfl, h1, h2, _⟩ := own_is ho
  exact ⟨a, cap, rfl, h1, h2, own_nil ho, sli_own ho⟩
/-- Instruction k's cells. -/
theorem Sli.at_ (h : Sli w a l) {k : Nat} {i : Ins} (hk : l[k]? = some i) : ∃ b off, a = some ⟨b, off, none⟩ ∧ b < w.heap.size ∧ w.cell? ⟨b, off + k * 8, none⟩ = some (.int .i64 i.op) ∧ w.cell? ⟨b, off + k * 8 + 1, none⟩ = some (.int .i64 i.d) ∧ w.cell? ⟨b, off + k * 8 + 2, none⟩ = some (.int .i64 i.s) ∧ w.cell? ⟨b, off + k * 8 + 3, none⟩ = some (.int .i64 i.t) ∧
    w.cell? ⟨b, off + k * 8 + 4, none⟩ = some (.int .i64 i.u) ∧ w.cell? ⟨b, off + k * 8 + 5, none⟩ = some (.int .i64 i.a) ∧ w.cell? ⟨b, off + k * 8 + 6, none⟩ = some (.int .u32 i.k) ∧ w.cell? ⟨b, off + k * 8 + 7, none⟩ = some (.int .i64 i.pl) := by
  have hkl := (List.getElem?_eq_some_iff.1 hk).1
  obtain ⟨b, off, e, hlt, hc⟩ := h (by omega)
  exact ⟨b, off, e, hlt, hc k i hk 0 (by omega), hc k i hk 1 (by omega), hc k i hk 2 (by omega), hc k i hk 3 (by omega), hc k i hk 4 (by omega), hc k i hk 5 (by omega), hc k i hk 6 (by omega), hc k i hk 7 (by omega)⟩
end

end Go.Proofs.YtpinpipjlongaaaGreat
