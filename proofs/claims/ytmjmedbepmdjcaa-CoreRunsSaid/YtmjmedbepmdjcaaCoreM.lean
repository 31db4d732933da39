/- Layer 8 as plain lists: a core behind one instruction, how it runs on, and that it stops again where it has stopped. No walk stands here. -/
import Derived.Test.YtmjmedbepmdjcaaPrgM
import Derived.Test.YtmjmedbepmdjcaaInstN
import Derived.Laws.BitsAllLaws
namespace Go.Proofs.Ytmjmedbepmdjcaa
open Go.RowKit
set_option linter.unusedVariables false

/-- Eight registers, each a word. -/
def Eight (xs : List Int) : Prop := xs.length = 8 ∧ U32s xs
theorem eight_cons {xs : List Int} (h : xs.length = 8) : ∃ a b c d e f g i, xs = [a, b, c, d, e, f, g, i] := by
  match xs, h with
  | [a, b, c, d, e, f, g, i], _ => exact ⟨a, b, c, d, e, f, g, i, rfl⟩

def andI (a b : Int) : Int := ((a.toNat &&& b.toNat : Nat) : Int)
def orI (a b : Int) : Int := ((a.toNat ||| b.toNat : Nat) : Int)
theorem andI_range {a b : Int} (h0 : 0 ≤ a) (h1 : a < 4294967296) : 0 ≤ andI a b ∧ andI a b < 4294967296 := by
  unfold andI
  have := Nat.and_le_left (n := a.toNat) (m := b.toNat)
  omega
theorem orI_range {a b : Int} (h0 : 0 ≤ a) (h1 : a < 4294967296) (h2 : 0 ≤ b) (h3 : b < 4294967296) : 0 ≤ orI a b ∧ orI a b < 4294967296 := by
  unfold orI
  have := Nat.or_lt_two_pow (x := a.toNat) (y := b.toNat) (n := 32) (by omega) (by omega)
  omega

/-- The bits that both have, or that one has, from the lowest one on, so many. -/
def bitN (both : Bool) (a b : Nat) : Nat → Nat
  | 0 => 0
  | n + 1 => bitN both a b n + (if (if both then a / 2 ^ n % 2 + b / 2 ^ n % 2 = 2 else 0 < a / 2 ^ n % 2 + b / 2 ^ n % 2) then 2 ^ n else 0)
theorem bit_step (x n : Nat) : x % 2 ^ (n + 1) = x % 2 ^ n + (if x / 2 ^ n % 2 = 1 then 2 ^ n else 0) := by
  rw [Nat.mod_pow_succ]
  have : x / 2 ^ n % 2 = 0 ∨ x / 2 ^ n % 2 = 1 := by omega
  rcases this with h | h <;> simp [h]
theorem bit_and (a b n : Nat) : (a &&& b) / 2 ^ n % 2 = 1 ↔ a / 2 ^ n % 2 = 1 ∧ b / 2 ^ n % 2 = 1 := by
  have h := Nat.testBit_and a b n
  simp only [Nat.testBit_eq_decide_div_mod_eq, decide_eq_decide, ← Bool.decide_and] at h
  exact h
theorem bit_or (a b n : Nat) : (a ||| b) / 2 ^ n % 2 = 1 ↔ a / 2 ^ n % 2 = 1 ∨ b / 2 ^ n % 2 = 1 := by
  have h := Nat.testBit_or a b n
  simp only [Nat.testBit_eq_decide_div_mod_eq, decide_eq_decide, ← Bool.decide_or] at h
  exact h
theorem bitN_and (a b : Nat) : ∀ n, bitN true a b n = (a &&& b) % 2 ^ n
  | 0 => by simp [bitN, Nat.mod_one]
  | n + 1 => by
    rw [bit_step, bitN, bitN_and a b n]
    congr 1
    have h1 : a / 2 ^ n % 2 = 0 ∨ a / 2 ^ n % 2 = 1 := by omega
    have h2 : b / 2 ^ n % 2 = 0 ∨ b / 2 ^ n % 2 = 1 := by omega
    have h3 := bit_and a b n
    rcases h1 with h1 | h1 <;> rcases h2 with h2 | h2 <;> simp [h1, h2] at h3 ⊢ <;> simp [h3]
theorem bitN_or (a b : Nat) : ∀ n, bitN false a b n = (a ||| b) % 2 ^ n
  | 0 => by simp [bitN, Nat.mod_one]
  | n + 1 => by
    rw [bit_step, bitN, bitN_or a b n]
    congr 1
    have h1 : a / 2 ^ n % 2 = 0 ∨ a / 2 ^ n % 2 = 1 := by omega
    have h2 : b / 2 ^ n % 2 = 0 ∨ b / 2 ^ n % 2 = 1 := by omega
    have h3 := bit_or a b n
    rcases h1 with h1 | h1 <;> rcases h2 with h2 | h2 <;> simp [h1, h2] at h3 ⊢ <;> simp [h3]
theorem bitN_le (both : Bool) (a b : Nat) : ∀ n, bitN both a b n < 2 ^ n
  | 0 => by simp [bitN]
  | n + 1 => by
    have := bitN_le both a b n
    rw [bitN, Nat.pow_succ]
    have : ∀ c : Prop, [Decidable c] → (if c then 2 ^ n else 0) ≤ 2 ^ n := by intro c _; split <;> omega
    have := this (if both = true then a / 2 ^ n % 2 + b / 2 ^ n % 2 = 2 else 0 < a / 2 ^ n % 2 + b / 2 ^ n % 2)
    omega
theorem bitN_is (both : Bool) (a b : Int) (h0 : 0 ≤ a) (h1 : a < 4294967296) (h2 : 0 ≤ b) (h3 : b < 4294967296) : (bitN both a.toNat b.toNat 32 : Int) = if both then andI a b else orI a b := by
  cases both
  · rw [bitN_or, Nat.mod_eq_of_lt (Nat.or_lt_two_pow (by omega) (by omega))]; rfl
  · rw [bitN_and, Nat.mod_eq_of_lt (Nat.lt_of_le_of_lt Nat.and_le_left (by omega))]; rfl

/-- What rD is behind a local instruction, if it has one: a and b are what rS and rT are. -/
def valA (op a b k self : Int) : Option Int :=
  if op = 1 then some k
  else if op = 2 then some a
  else if op = 3 then some ((a + k) % 4294967296)
  else if op = 4 then some (andI a k)
  else if op = 5 then some (a * 2 ^ k.toNat % 4294967296)
  else if op = 6 then some (a / 2 ^ k.toNat)
  else if op = 7 then some (orI a b)
  else if op = 11 then some self
  else none
def valueO (xs : List Int) (i : Ins) (self : Int) : Option Int := valA i.op (nth xs i.s.toNat) (nth xs i.t.toNat) i.k self

/-- Where it goes. -/
def placeA (op a b pl pc : Int) : Int := if op = 10 ∨ (op = 8 ∧ a = b) ∨ (op = 9 ∧ a ≠ b) then pl else if op = 13 then pc else pc + 1
def placeL (xs : List Int) (pc : Int) (i : Ins) : Int := placeA i.op (nth xs i.s.toNat) (nth xs i.t.toNat) i.pl pc
def regsL (xs : List Int) (i : Ins) (self : Int) : List Int := match valueO xs i self with
  | some v => xs.set i.d.toNat v
  | none => xs
/-- A core behind one instruction. -/
def oneR (xs : List Int) (i : Ins) (self : Int) : List Int := if memB i.op then xs else regsL xs i self
def oneP (xs : List Int) (pc : Int) (i : Ins) : Int := if memB i.op then pc else placeL xs pc i

/-- What is known of a right instruction, of a program of n. -/
structure OkI (i : Ins) : Prop where
  op : (1 ≤ i.op ∧ i.op ≤ 13) ∨ (16 ≤ i.op ∧ i.op ≤ 23)
  d : 0 ≤ i.d ∧ i.d ≤ 7
  s : 0 ≤ i.s ∧ i.s ≤ 7
  t : 0 ≤ i.t ∧ i.t ≤ 7
  k : 0 ≤ i.k ∧ i.k < 4294967296
  sh : (i.op = 5 ∨ i.op = 6) → i.k ≤ 31
  mark : (i.op = 12 ∨ i.op = 13) → i.k ≤ 4
theorem ok_of {i : Ins} {p : Int} (h : rightB i p = true) (k0 : 0 ≤ i.k) (k1 : i.k < 4294967296) : OkI i := by
  obtain ⟨hd, hs, ht, hu, ha⟩ := right_regs i p h
  obtain ⟨op, d, s, t, u, a, k, pl⟩ := i
  simp only at k0 k1 hd hs ht hu ha
  refine ⟨?_, hd, hs, ht, ⟨k0, k1⟩, ?_, ?_⟩
  · rcases op_cases op with rfl | rfl | rfl | rfl | rfl | rfl | rfl | rfl | rfl | rfl | rfl | rfl | rfl | rfl | rfl | rfl | rfl | rfl | rfl | rfl | rfl | hn
    rotate_right
    · unfold rightB at h
      rw [(hs_none hn).1] at h
      simp at h
    all_goals simp
  · rintro (e | e)
    · simp only at e
      subst e
      rw [right_5 d s t u a k pl p hd hs ht hu ha k0 k1] at h
      simp at h
      exact h.2
    · simp only at e
      subst e
      rw [right_6 d s t u a k pl p hd hs ht hu ha k0 k1] at h
      simp at h
      exact h.2
  · rintro (e | e)
    · simp only at e
      subst e
      rw [right_12 d s t u a k pl p hd hs ht hu ha k0 k1] at h
      simp at h
      show k ≤ 4
      omega
    · simp only at e
      subst e
      rw [right_13 d s t u a k pl p hd hs ht hu ha k0 k1] at h
      simp at h
      show k ≤ 4
      omega

section
variable {xs : List Int} {i : Ins} {self : Int}
theorem pow_u32 {k : Int} (h0 : 0 ≤ k) (h1 : k ≤ 31) : (1 : Int) ≤ 2 ^ k.toNat ∧ (2 : Int) ^ k.toNat ≤ 2147483648 := by
  have a := Nat.one_le_two_pow (n := k.toNat)
  have b := Nat.pow_le_pow_right (n := 2) (by omega) (show k.toNat ≤ 31 by omega)
  have e : ((2 ^ k.toNat : Nat) : Int) = (2 : Int) ^ k.toNat := by simp
  omega
theorem valueO_u32 (hx : U32s xs) (h : OkI i) (h0 : 0 ≤ self) (h1 : self < 4294967296) {v : Int} (hv : valueO xs i self = some v) : 0 ≤ v ∧ v < 4294967296 := by
  have es := hx.at_ i.s.toNat
  have et := hx.at_ i.t.toNat
  have hk := h.k
  unfold valueO valA at hv
  repeat' split at hv
  all_goals first | (injection hv with hv; subst hv) | cases hv
  · omega
  · omega
  · omega
  · exact andI_range es.1 es.2
  · omega
  · rename_i e
    have hp := pow_u32 hk.1 (h.sh (.inr e))
    have := Int.ediv_le_self (2 ^ i.k.toNat) es.1
    have := Int.ediv_nonneg es.1 (by omega : (0 : Int) ≤ 2 ^ i.k.toNat)
    omega
  · exact orI_range es.1 es.2 et.1 et.2
  · omega
theorem Eight.one (hx : Eight xs) (h : OkI i) (h0 : 0 ≤ self) (h1 : self < 4294967296) : Eight (oneR xs i self) := by
  unfold oneR regsL
  split
  · exact hx
  · split
    · rename_i v hv
      exact ⟨by rw [List.length_set]; exact hx.1, hx.2.set _ _ (valueO_u32 hx.2 h h0 h1 hv)⟩
    · exact hx
end

/-- A core that runs on, at most n local instructions more: what it is as it stops; the marks; what it is over with; what is wrong. -/
structure Out where
  xs : List Int
  pc : Int
  ms : List Int
  done : Int
  e : Int
def runL (self : Int) (l : List Ins) : Nat → List Int → Int → List Int → Out
  | n, xs, pc, ms =>
    if pc < 0 then ⟨xs, pc, ms, -1, 11⟩
    else match l[pc.toNat]? with
      | none => ⟨xs, pc, ms, -1, 11⟩
      | some i => if memB i.op then ⟨xs, pc, ms, -1, 0⟩
        else match n with
          | 0 => ⟨xs, pc, ms, -1, 11⟩
          | n + 1 => if i.op = 13 then ⟨xs, pc, ms, i.k, 0⟩ else runL self l n (oneR xs i self) (oneP xs pc i) (if i.op = 12 then ms ++ [i.k] else ms)
section
variable {self : Int} {l : List Ins} {n : Nat} {xs : List Int} {pc : Int} {ms : List Int}
theorem runL_out (h : pc < 0 ∨ l.length ≤ pc) : runL self l n xs pc ms = ⟨xs, pc, ms, -1, 11⟩ := by
  unfold runL
  by_cases h0 : pc < 0
  · rw [if_pos h0]
  · rw [if_neg h0, List.getElem?_eq_none (by omega)]
theorem runL_mem {i : Ins} {k : Nat} (h : l[k]? = some i) (hm : memB i.op = true) : runL self l n xs k ms = ⟨xs, k, ms, -1, 0⟩ := by
  unfold runL
  rw [if_neg (by omega), Int.toNat_natCast, h]
  simp [hm]
theorem runL_zero {i : Ins} {k : Nat} (h : l[k]? = some i) (hm : memB i.op = false) : runL self l 0 xs k ms = ⟨xs, k, ms, -1, 11⟩ := by
  unfold runL
  rw [if_neg (by omega), Int.toNat_natCast, h]
  simp [hm]
theorem runL_done {i : Ins} {k : Nat} (h : l[k]? = some i) (hm : i.op = 13) : runL self l (n + 1) xs k ms = ⟨xs, k, ms, i.k, 0⟩ := by
  unfold runL
  rw [if_neg (by omega), Int.toNat_natCast, h]
  simp [hm, memB]
theorem runL_step {i : Ins} {k : Nat} (h : l[k]? = some i) (hm : memB i.op = false) (h13 : i.op ≠ 13) : runL self l (n + 1) xs k ms = runL self l n (oneR xs i self) (oneP xs k i) (if i.op = 12 then ms ++ [i.k] else ms) := by
  conv => lhs; unfold runL
  rw [if_neg (by omega), Int.toNat_natCast, h]
  simp [hm, h13]
end
/-- How a run ends: out of the program or too much done; at an instruction of the memory; at a Done. -/
theorem runL_end (self : Int) (l : List Ins) : ∀ (n : Nat) (xs : List Int) (pc : Int) (ms : List Int),
    ((runL self l n xs pc ms).e = 11 ∧ (runL self l n xs pc ms).done = -1) ∨
    ((runL self l n xs pc ms).e = 0 ∧ ∃ (k : Nat) (i : Ins), (runL self l n xs pc ms).pc = k ∧ l[k]? = some i ∧
      ((memB i.op = true ∧ (runL self l n xs pc ms).done = -1) ∨ (i.op = 13 ∧ (runL self l n xs pc ms).done = i.k)))
  | n, xs, pc, ms => by
    by_cases h0 : pc < 0 ∨ l.length ≤ pc
    · rw [runL_out h0]; exact .inl ⟨rfl, rfl⟩
    · obtain ⟨k, rfl⟩ : ∃ k : Nat, pc = k := ⟨pc.toNat, by omega⟩
      have hk := List.getElem?_eq_getElem (l := l) (i := k) (by omega)
      generalize l[k] = i at hk
      by_cases hm : memB i.op = true
      · rw [runL_mem hk hm]; exact .inr ⟨rfl, k, i, rfl, hk, .inl ⟨hm, rfl⟩⟩
      · have hm' : memB i.op = false := by simpa using hm
        match n with
        | 0 => rw [runL_zero hk hm']; exact .inl ⟨rfl, rfl⟩
        | n + 1 =>
          by_cases h13 : i.op = 13
          · rw [runL_done hk h13]; exact .inr ⟨rfl, k, i, rfl, hk, .inr ⟨h13, rfl⟩⟩
          · rw [runL_step hk hm' h13]; exact runL_end self l n _ _ _
theorem runL_again (self : Int) (l : List Ins) (n : Nat) (xs : List Int) (pc : Int) (ms : List Int) (h : (runL self l n xs pc ms).e = 0) (m : Nat) :
    runL self l (m + 1) (runL self l n xs pc ms).xs (runL self l n xs pc ms).pc [] = ⟨(runL self l n xs pc ms).xs, (runL self l n xs pc ms).pc, [], (runL self l n xs pc ms).done, 0⟩ := by
  rcases runL_end self l n xs pc ms with ⟨e, _⟩ | ⟨_, k, i, ep, hk, ⟨hm, ed⟩ | ⟨hm, ed⟩⟩
  · omega
  · rw [ep, ed, runL_mem hk hm]
  · rw [ep, ed, runL_done hk hm]
theorem runL_e (self : Int) (l : List Ins) (n : Nat) (xs : List Int) (pc : Int) (ms : List Int) : (runL self l n xs pc ms).e = 0 ∨ ((runL self l n xs pc ms).e = 11 ∧ (runL self l n xs pc ms).done = -1) := by
  rcases runL_end self l n xs pc ms with ⟨e, d⟩ | ⟨e, _⟩
  · exact .inr ⟨e, d⟩
  · exact .inl e
theorem runL_eight {self : Int} {l : List Ins} (hl : ∀ i ∈ l, OkI i) (h0 : 0 ≤ self) (h1 : self < 4294967296) : ∀ (n : Nat) (xs : List Int) (pc : Int) (ms : List Int), Eight xs → Eight (runL self l n xs pc ms).xs
  | n, xs, pc, ms, hx => by
    by_cases h9 : pc < 0 ∨ l.length ≤ pc
    · rw [runL_out h9]; exact hx
    · obtain ⟨k, rfl⟩ : ∃ k : Nat, pc = k := ⟨pc.toNat, by omega⟩
      have hk := List.getElem?_eq_getElem (l := l) (i := k) (by omega)
      have hi := hl _ (List.getElem_mem (l := l) (n := k) (by omega))
      generalize l[k] = i at hk hi
      by_cases hm : memB i.op = true
      · rw [runL_mem hk hm]; exact hx
      · have hm' : memB i.op = false := by simpa using hm
        match n with
        | 0 => rw [runL_zero hk hm']; exact hx
        | n + 1 =>
          by_cases h13 : i.op = 13
          · rw [runL_done hk h13]; exact hx
          · rw [runL_step hk hm' h13]; exact runL_eight hl h0 h1 n _ _ _ (hx.one hi h0 h1)
end Go.Proofs.Ytmjmedbepmdjcaa
