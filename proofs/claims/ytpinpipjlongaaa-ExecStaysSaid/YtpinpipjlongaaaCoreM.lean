/- CoreM, ArM, FifoM, ExM, ExD, ExStM, one behind the other. -/
import Derived.Test.YtpinpipjlongaaaPrgM
import Derived.Test.YtpinpipjlongaaaInstN
import Derived.Laws.BitsAllLaws
import Derived.Test.YtpinpipjlongaaaRow
import Derived.Test.YtpinpipjlongaaaRows
/- Layer 8 as plain lists: a core behind one instruction, how it runs on, and that it stops again where it has stopped. No walk stands here. -/
namespace Go.Proofs.Ytpinpipjlongaaa
open Go.RowKit
set_option linter.unusedVariables false

/-- Eight registers, each a word. -/
def Eight (xs : List Int) : Prop := xs.length = 8 ∧ U32s xs
theorem eight_cons {xs : List Int} (h : xs.length = 8) : ∃ a b c d e f g i, xs = [a, b, c, d, e, f, g, i] := by
  match xs, h with
  | [a, b, c, d, e, f, g, i], _ => exact ⟨a, b, c, d, e, f, g, i, rfl⟩

def andI (a b : Int) : Int := ((a.toNat &&& b.toNat : Nat) : Int)
def orI (a b : Int) : Int := ((a.toNat ||| b.toNat : Nat) : Int)
theorem andI_range {a b : Int} (h0 : 0 ≤ a) (h1 : a < 4294967296) : 0 ≤ andI a b ∧ andI a b < 4294967296 := by
  unfold andI
  have := Nat.and_le_left (n := a.toNat) (m := b.toNat)
  omega
theorem orI_range {a b : Int} (h0 : 0 ≤ a) (h1 : a < 4294967296) (h2 : 0 ≤ b) (h3 : b < 4294967296) : 0 ≤ orI a b ∧ orI a b < 4294967296 := by
  unfold orI
  have := Nat.or_lt_two_pow (x := a.toNat) (y := b.toNat) (n := 32) (by omega) (by omega)
  omega

/-- The bits that both have, or that one has, from the lowest one on, so many. -/
def bitN (both : Bool) (a b : Nat) : Nat → Nat
  | 0 => 0
  | n + 1 => bitN both a b n + (if (if both then a / 2 ^ n % 2 + b / 2 ^ n % 2 = 2 else 0 < a / 2 ^ n % 2 + b / 2 ^ n % 2) then 2 ^ n else 0)
theorem bit_step (x n : Nat) : x % 2 ^ (n + 1) = x % 2 ^ n + (if x / 2 ^ n % 2 = 1 then 2 ^ n else 0) := by
  rw [Nat.mod_pow_succ]
  have : x / 2 ^ n % 2 = 0 ∨ x / 2 ^ n % 2 = 1 := by omega
  rcases this with h | h <;> simp [h]
theorem bit_and (a b n : Nat) : (a &&& b) / 2 ^ n % 2 = 1 ↔ a / 2 ^ n % 2 = 1 ∧ b / 2 ^ n % 2 = 1 := by
  have h := Nat.testBit_and a b n
  simp only [Nat.testBit_eq_decide_div_mod_eq, decide_eq_decide, ← Bool.decide_and] at h
  exact h
theorem bit_or (a b n : Nat) : (a ||| b) / 2 ^ n % 2 = 1 ↔ a / 2 ^ n % 2 = 1 ∨ b / 2 ^ n % 2 = 1 := by
  have h := Nat.testBit_or a b n
  simp only [Nat.testBit_eq_decide_div_mod_eq, decide_eq_decide, ← Bool.decide_or] at h
  exact h
theorem bitN_and (a b : Nat) : ∀ n, bitN true a b n = (a &&& b) % 2 ^ n
  | 0 => by simp [bitN, Nat.mod_one]
  | n + 1 => by
    rw [bit_step, bitN, bitN_and a b n]
    congr 1
    have h1 : a / 2 ^ n % 2 = 0 ∨ a / 2 ^ n % 2 = 1 := by omega
    have h2 : b / 2 ^ n % 2 = 0 ∨ b / 2 ^ n % 2 = 1 := by omega
    have h3 := bit_and a b n
    rcases h1 with h1 | h1 <;> rcases h2 with h2 | h2 <;> simp [h1, h2] at h3 ⊢ <;> simp [h3]
theorem bitN_or (a b : Nat) : ∀ n, bitN false a b n = (a ||| b) % 2 ^ n
  | 0 => by simp [bitN, Nat.mod_one]
  | n + 1 => by
    rw [bit_step, bitN, bitN_or a b n]
    congr 1
    have h1 : a / 2 ^ n % 2 = 0 ∨ a / 2 ^ n % 2 = 1 := by omega
    have h2 : b / 2 ^ n % 2 = 0 ∨ b / 2 ^ n % 2 = 1 := by omega
    have h3 := bit_or a b n
    rcases h1 with h1 | h1 <;> rcases h2 with h2 | h2 <;> simp [h1, h2] at h3 ⊢ <;> simp [h3]
theorem bitN_le (both : Bool) (a b : Nat) : ∀ n, bitN both a b n < 2 ^ n
  | 0 => by simp [bitN]
  | n + 1 => by
    have := bitN_le both a b n
    rw [bitN, Nat.pow_succ]
    have : ∀ c : Prop, [Decidable c] → (if c then 2 ^ n else 0) ≤ 2 ^ n := by intro c _; split <;> omega
    have := this (if both = true then a / 2 ^ n % 2 + b / 2 ^ n % 2 = 2 else 0 < a / 2 ^ n % 2 + b / 2 ^ n % 2)
    omega
theorem bitN_is (both : Bool) (a b : Int) (h0 : 0 ≤ a) (h1 : a < 4294967296) (h2 : 0 ≤ b) (h3 : b < 4294967296) : (bitN both a.toNat b.toNat 32 : Int) = if both then andI a b else orI a b := by
  cases both
  · rw [bitN_or, Nat.mod_eq_of_lt (Nat.or_lt_two_pow (by omega) (by omega))]; rfl
  · rw [bitN_and, Nat.mod_eq_of_lt (Nat.lt_of_le_of_lt Nat.and_le_left (by omega))]; rfl

/-- What rD is behind a local instruction, if it has one: a and b are what rS and rT are. -/
def valA (op a b k self : Int) : Option Int :=
  if op = 1 then some k
  else if op = 2 then some a
  else if op = 3 then some ((a + k) % 4294967296)
  else if op = 4 then some (andI a k)
  else if op = 5 then some (a * 2 ^ k.toNat % 4294967296)
  else if op = 6 then some (a / 2 ^ k.toNat)
  else if op = 7 then some (orI a b)
  else if op = 11 then some self
  else none
def valueO (xs : List Int) (i : Ins) (self : Int) : Option Int := valA i.op (nth xs i.s.toNat) (nth xs i.t.toNat) i.k self

/-- Where it goes. -/
def placeA (op a b pl pc : Int) : Int := if op = 10 ∨ (op = 8 ∧ a = b) ∨ (op = 9 ∧ a ≠ b) then pl else if op = 13 then pc else pc + 1
def placeL (xs : List Int) (pc : Int) (i : Ins) : Int := placeA i.op (nth xs i.s.toNat) (nth xs i.t.toNat) i.pl pc
def regsL (xs : List Int) (i : Ins) (self : Int) : List Int := match valueO xs i self with
  | some v => xs.set i.d.toNat v
  | none => xs
/-- A core behind one instruction. -/
def oneR (xs : List Int) (i : Ins) (self : Int) : List Int := if memB i.op then xs else regsL xs i self
def oneP (xs : List Int) (pc : Int) (i : Ins) : Int := if memB i.op then pc else placeL xs pc i

/-- What is known of a right instruction, of a program of n. -/
structure OkI (i : Ins) : Prop where
  op : (1 ≤ i.op ∧ i.op ≤ 13) ∨ (16 ≤ i.op ∧ i.op ≤ 23)
  d : 0 ≤ i.d ∧ i.d ≤ 7
  s : 0 ≤ i.s ∧ i.s ≤ 7
  t : 0 ≤ i.t ∧ i.t ≤ 7
  k : 0 ≤ i.k ∧ i.k < 4294967296
  sh : (i.op = 5 ∨ i.op = 6) → i.k ≤ 31
  mark : (i.op = 12 ∨ i.op = 13) → i.k ≤ 4
theorem ok_of {i : Ins} {p : Int} (h : rightB i p = true) (k0 : 0 ≤ i.k) (k1 : i.k < 4294967296) : OkI i := by
  obtain ⟨hd, hs, ht, hu, ha⟩ := right_regs i p h
  obtain ⟨op, d, s, t, u, a, k, pl⟩ := i
  simp only at k0 k1 hd hs ht hu ha
  refine ⟨?_, hd, hs, ht, ⟨k0, k1⟩, ?_, ?_⟩
  · rcases op_cases op with rfl | rfl | rfl | rfl | rfl | rfl | rfl | rfl | rfl | rfl | rfl | rfl | rfl | rfl | rfl | rfl | rfl | rfl | rfl | rfl | rfl | hn
    rotate_right
    · unfold rightB at h
      rw [(hs_none hn).1] at h
      simp at h
    all_goals simp
  · rintro (e | e)
    · simp only at e
      subst e
      rw [right_5 d s t u a k pl p hd hs ht hu ha k0 k1] at h
      simp at h
      exact h.2
    · simp only at e
      subst e
      rw [right_6 d s t u a k pl p hd hs ht hu ha k0 k1] at h
      simp at h
      exact h.2
  · rintro (e | e)
    · simp only at e
      subst e
      rw [right_12 d s t u a k pl p hd hs ht hu ha k0 k1] at h
      simp at h
      show k ≤ 4
      omega
    · simp only at e
      subst e
      rw [right_13 d s t u a k pl p hd hs ht hu ha k0 k1] at h
      simp at h
      show k ≤ 4
      omega

section
variable {xs : List Int} {i : Ins} {self : Int}
theorem pow_u32 {k : Int} (h0 : 0 ≤ k) (h1 : k ≤ 31) : (1 : Int) ≤ 2 ^ k.toNat ∧ (2 : Int) ^ k.toNat ≤ 2147483648 := by
  have a := Nat.one_le_two_pow (n := k.toNat)
  have b := Nat.pow_le_pow_right (n := 2) (by omega) (show k.toNat ≤ 31 by omega)
  have e : ((2 ^ k.toNat : Nat) : Int) = (2 : Int) ^ k.toNat := by simp
  omega
theorem valueO_u32 (hx : U32s xs) (h : OkI i) (h0 : 0 ≤ self) (h1 : self < 4294967296) {v : Int} (hv : valueO xs i self = some v) : 0 ≤ v ∧ v < 4294967296 := by
  have es := hx.at_ i.s.toNat
  have et := hx.at_ i.t.toNat
  have hk := h.k
  unfold valueO valA at hv
  repeat' split at hv
  all_goals first | (injection hv with hv; subst hv) | cases hv
  · omega
  · omega
  · omega
  · exact andI_range es.1 es.2
  · omega
  · rename_i e
    have hp := pow_u32 hk.1 (h.sh (.inr e))
    have := Int.ediv_le_self (2 ^ i.k.toNat) es.1
    have := Int.ediv_nonneg es.1 (by omega : (0 : Int) ≤ 2 ^ i.k.toNat)
    omega
  · exact orI_range es.1 es.2 et.1 et.2
  · omega
theorem Eight.one (hx : Eight xs) (h : OkI i) (h0 : 0 ≤ self) (h1 : self < 4294967296) : Eight (oneR xs i self) := by
  unfold oneR regsL
  split
  · exact hx
  · split
    · rename_i v hv
      exact ⟨by rw [List.length_set]; exact hx.1, hx.2.set _ _ (valueO_u32 hx.2 h h0 h1 hv)⟩
    · exact hx
end

/-- A core that runs on, at most n local instructions more: what it is as it stops; the marks; what it is over with; what is wrong. -/
structure Out where
  xs : List Int
  pc : Int
  ms : List Int
  done : Int
  e : Int
def runL (self : Int) (l : List Ins) : Nat → List Int → Int → List Int → Out
  | n, xs, pc, ms =>
    if pc < 0 then ⟨xs, pc, ms, -1, 11⟩
    else match l[pc.toNat]? with
      | none => ⟨xs, pc, ms, -1, 11⟩
      | some i => if memB i.op then ⟨xs, pc, ms, -1, 0⟩
        else match n with
          | 0 => ⟨xs, pc, ms, -1, 11⟩
          | n + 1 => if i.op = 13 then ⟨xs, pc, ms, i.k, 0⟩ else runL self l n (oneR xs i self) (oneP xs pc i) (if i.op = 12 then ms ++ [i.k] else ms)
section
variable {self : Int} {l : List Ins} {n : Nat} {xs : List Int} {pc : Int} {ms : List Int}
theorem runL_out (h : pc < 0 ∨ l.length ≤ pc) : runL self l n xs pc ms = ⟨xs, pc, ms, -1, 11⟩ := by
  unfold runL
  by_cases h0 : pc < 0
  · rw [if_pos h0]
  · rw [if_neg h0, List.getElem?_eq_none (by omega)]
theorem runL_mem {i : Ins} {k : Nat} (h : l[k]? = some i) (hm : memB i.op = true) : runL self l n xs k ms = ⟨xs, k, ms, -1, 0⟩ := by
  unfold runL
  rw [if_neg (by omega), Int.toNat_natCast, h]
  simp [hm]
theorem runL_zero {i : Ins} {k : Nat} (h : l[k]? = some i) (hm : memB i.op = false) : runL self l 0 xs k ms = ⟨xs, k, ms, -1, 11⟩ := by
  unfold runL
  rw [if_neg (by omega), Int.toNat_natCast, h]
  simp [hm]
theorem runL_done {i : Ins} {k : Nat} (h : l[k]? = some i) (hm : i.op = 13) : runL self l (n + 1) xs k ms = ⟨xs, k, ms, i.k, 0⟩ := by
  unfold runL
  rw [if_neg (by omega), Int.toNat_natCast, h]
  simp [hm, memB]
theorem runL_step {i : Ins} {k : Nat} (h : l[k]? = some i) (hm : memB i.op = false) (h13 : i.op ≠ 13) : runL self l (n + 1) xs k ms = runL self l n (oneR xs i self) (oneP xs k i) (if i.op = 12 then ms ++ [i.k] else ms) := by
  conv => lhs; unfold runL
  rw [if_neg (by omega), Int.toNat_natCast, h]
  simp [hm, h13]
end
/-- How a run ends: out of the program or too much done; at an instruction of the memory; at a Done. -/
theorem runL_end (self : Int) (l : List Ins) : ∀ (n : Nat) (xs : List Int) (pc : Int) (ms : List Int),
    ((runL self l n xs pc ms).e = 11 ∧ (runL self l n xs pc ms).done = -1) ∨
    ((runL self l n xs pc ms).e = 0 ∧ ∃ (k : Nat) (i : Ins), (runL self l n xs pc ms).pc = k ∧ l[k]? = some i ∧
      ((memB i.op = true ∧ (runL self l n xs pc ms).done = -1) ∨ (i.op = 13 ∧ (runL self l n xs pc ms).done = i.k)))
  | n, xs, pc, ms => by
    by_cases h0 : pc < 0 ∨ l.length ≤ pc
    · rw [runL_out h0]; exact .inl ⟨rfl, rfl⟩
    · obtain ⟨k, rfl⟩ : ∃ k : Nat, pc = k := ⟨pc.toNat, by omega⟩
      have hk := List.getElem?_eq_getElem (l := l) (i := k) (by omega)
      generalize l[k] = i at hk
      by_cases hm : memB i.op = true
      · rw [runL_mem hk hm]; exact .inr ⟨rfl, k, i, rfl, hk, .inl ⟨hm, rfl⟩⟩
      · have hm' : memB i.op = false := by simpa using hm
        match n with
        | 0 => rw [runL_zero hk hm']; exact .inl ⟨rfl, rfl⟩
        | n + 1 =>
          by_cases h13 : i.op = 13
          · rw [runL_done hk h13]; exact .inr ⟨rfl, k, i, rfl, hk, .inr ⟨h13, rfl⟩⟩
          · rw [runL_step hk hm' h13]; exact runL_end self l n _ _ _
theorem runL_again (self : Int) (l : List Ins) (n : Nat) (xs : List Int) (pc : Int) (ms : List Int) (h : (runL self l n xs pc ms).e = 0) (m : Nat) :
    runL self l (m + 1) (runL self l n xs pc ms).xs (runL self l n xs pc ms).pc [] = ⟨(runL self l n xs pc ms).xs, (runL self l n xs pc ms).pc, [], (runL self l n xs pc ms).done, 0⟩ := by
  rcases runL_end self l n xs pc ms with ⟨e, _⟩ | ⟨_, k, i, ep, hk, ⟨hm, ed⟩ | ⟨hm, ed⟩⟩
  · omega
  · rw [ep, ed, runL_mem hk hm]
  · rw [ep, ed, runL_done hk hm]
theorem runL_e (self : Int) (l : List Ins) (n : Nat) (xs : List Int) (pc : Int) (ms : List Int) : (runL self l n xs pc ms).e = 0 ∨ ((runL self l n xs pc ms).e = 11 ∧ (runL self l n xs pc ms).done = -1) := by
  rcases runL_end self l n xs pc ms with ⟨e, d⟩ | ⟨e, _⟩
  · exact .inr ⟨e, d⟩
  · exact .inl e
theorem runL_eight {self : Int} {l : List Ins} (hl : ∀ i ∈ l, OkI i) (h0 : 0 ≤ self) (h1 : self < 4294967296) : ∀ (n : Nat) (xs : List Int) (pc : Int) (ms : List Int), Eight xs → Eight (runL self l n xs pc ms).xs
  | n, xs, pc, ms, hx => by
    by_cases h9 : pc < 0 ∨ l.length ≤ pc
    · rw [runL_out h9]; exact hx
    · obtain ⟨k, rfl⟩ : ∃ k : Nat, pc = k := ⟨pc.toNat, by omega⟩
      have hk := List.getElem?_eq_getElem (l := l) (i := k) (by omega)
      have hi := hl _ (List.getElem_mem (l := l) (n := k) (by omega))
      generalize l[k] = i at hk hi
      by_cases hm : memB i.op = true
      · rw [runL_mem hk hm]; exact hx
      · have hm' : memB i.op = false := by simpa using hm
        match n with
        | 0 => rw [runL_zero hk hm']; exact hx
        | n + 1 =>
          by_cases h13 : i.op = 13
          · rw [runL_done hk h13]; exact hx
          · rw [runL_step hk hm' h13]; exact runL_eight hl h0 h1 n _ _ _ (hx.one hi h0 h1)
end Go.Proofs.Ytpinpipjlongaaa

/- Areas of cells as plain lists: which sizes there may be, where each area begins, all cells in a row, and where each one lies: over any program. -/
namespace Go.Proofs.Ytpinpipjlongaaa

/-- There may be areas of these sizes. -/
def RightZ (zs : List Int) : Prop := zs.length ≤ 8 ∧ ∀ k, k < zs.length → 0 ≤ nth zs k ∧ nth zs k ≤ 4096
/-- An area's size. -/
def sz (zs : List Int) (k : Nat) : Nat := (nth zs k).toNat
/-- Where an area begins. -/
def pre (zs : List Int) : Nat → Nat
  | 0 => 0
  | k + 1 => pre zs k + sz zs k
theorem pre_succ (zs : List Int) (k : Nat) : pre zs (k + 1) = pre zs k + sz zs k := rfl
/-- All of them together. -/
def tot (zs : List Int) : Nat := pre zs zs.length
/-- The cells of the first k areas: each one's area and place. -/
def celTo (zs : List Int) : Nat → List (Nat × Nat)
  | 0 => []
  | k + 1 => celTo zs k ++ (List.range (sz zs k)).map fun i => (k, i)
def cels (zs : List Int) : List (Nat × Nat) := celTo zs zs.length

section
variable {zs : List Int}
theorem sz_eq (h : RightZ zs) {k : Nat} (hk : k < zs.length) : nth zs k = (sz zs k : Int) := by
  have := (h.2 k hk).1; unfold sz; omega
theorem sz_le (h : RightZ zs) {k : Nat} (hk : k < zs.length) : sz zs k ≤ 4096 := by
  have := (h.2 k hk); unfold sz; omega
theorem pre_mono (zs : List Int) {a b : Nat} (h : a ≤ b) : pre zs a ≤ pre zs b := by
  induction b with
  | zero => obtain rfl : a = 0 := by omega
            exact Nat.le_refl _
  | succ b ih =>
    by_cases e : a = b + 1
    · subst e; exact Nat.le_refl _
    · exact Nat.le_trans (ih (by omega)) (by simp [pre])
theorem pre_le (h : RightZ zs) : ∀ k, k ≤ zs.length → pre zs k ≤ 4096 * k
  | 0, _ => Nat.le_refl _
  | k + 1, hk => by
    have h1 := pre_le h k (by omega)
    have h2 := sz_le h (k := k) (by omega)
    rw [pre_succ]; omega
theorem tot_le (h : RightZ zs) : tot zs ≤ 32768 := by
  have h1 := pre_le h zs.length (Nat.le_refl _)
  have h2 := h.1
  unfold tot; omega
theorem pre_tot {k : Nat} (hk : k ≤ zs.length) : pre zs k ≤ tot zs := pre_mono zs hk
theorem celTo_len (zs : List Int) : ∀ k, (celTo zs k).length = pre zs k
  | 0 => rfl
  | k + 1 => by simp [celTo, pre, celTo_len zs k]
theorem cels_len (zs : List Int) : (cels zs).length = tot zs := celTo_len zs _
/-- Where the cell of a place in an area stands. -/
theorem celTo_at (zs : List Int) : ∀ K a p, a < K → p < sz zs a → (celTo zs K)[pre zs a + p]? = some (a, p)
  | 0, a, p, ha, _ => by omega
  | K + 1, a, p, ha, hp => by
    unfold celTo
    rw [List.getElem?_append, celTo_len]
    by_cases e : a = K
    · subst e
      rw [if_neg (by omega), Nat.add_sub_cancel_left]
      simp [hp]
    · have h1 : pre zs (a + 1) ≤ pre zs K := pre_mono zs (by omega)
      rw [pre_succ] at h1
      rw [if_pos (by omega)]
      exact celTo_at zs K a p (by omega) hp
theorem cels_at {a p : Nat} (ha : a < zs.length) (hp : p < sz zs a) : (cels zs)[pre zs a + p]? = some (a, p) := celTo_at zs _ a p ha hp
/-- Each address lies somewhere. -/
theorem pre_split (zs : List Int) : ∀ K i, i < pre zs K → ∃ a p, a < K ∧ p < sz zs a ∧ i = pre zs a + p
  | 0, i, h => by unfold pre at h; omega
  | K + 1, i, h => by
    by_cases e : i < pre zs K
    · obtain ⟨a, p, h1, h2, h3⟩ := pre_split zs K i e
      exact ⟨a, p, by omega, h2, h3⟩
    · rw [pre_succ] at h
      exact ⟨K, i - pre zs K, by omega, by omega, by omega⟩
theorem tot_split {i : Nat} (h : i < tot zs) : ∃ a p, a < zs.length ∧ p < sz zs a ∧ i = pre zs a + p := pre_split zs _ i h
/-- .. and nowhere else. -/
theorem cels_only {i a p : Nat} (h : (cels zs)[i]? = some (a, p)) : a < zs.length ∧ p < sz zs a ∧ i = pre zs a + p := by
  have hi : i < (cels zs).length := (List.getElem?_eq_some_iff.1 h).1
  rw [cels_len] at hi
  obtain ⟨a', p', h1, h2, rfl⟩ := tot_split hi
  rw [cels_at h1 h2] at h
  simp only [Option.some.injEq, Prod.mk.injEq] at h
  obtain ⟨rfl, rfl⟩ := h
  exact ⟨h1, h2, rfl⟩
theorem pre_lt {a p : Nat} (ha : a < zs.length) (hp : p < sz zs a) : pre zs a + p < tot zs := by
  have h1 : pre zs (a + 1) ≤ tot zs := pre_tot (by omega)
  rw [pre_succ] at h1; omega

/-- A cell's two values, and those of a row of them. -/
def celC (c : Nat × Nat) : List Value := [.int .i64 c.1, .int .i64 c.2]
def celsC (l : List (Nat × Nat)) : List Value := l.flatMap celC
theorem celsC_snoc (l : List (Nat × Nat)) (c : Nat × Nat) : celsC (l ++ [c]) = celsC l ++ celC c := by simp [celsC]
theorem celsC_at : ∀ (l : List (Nat × Nat)) (k : Nat) (c : Nat × Nat), l[k]? = some c → (celsC l)[k * 2]? = some (.int .i64 c.1) ∧ (celsC l)[k * 2 + 1]? = some (.int .i64 c.2)
  | [], k, c, h => by simp at h
  | x :: l, 0, c, h => by simp at h; subst h; exact ⟨rfl, rfl⟩
  | x :: l, k + 1, c, h => by
    have ih := celsC_at l k c (by simpa using h)
    have e : celsC (x :: l) = .int .i64 x.1 :: .int .i64 x.2 :: celsC l := by simp [celsC, celC]
    rw [e, show (k + 1) * 2 = k * 2 + 1 + 1 by omega]
    exact ih
theorem celsC_one (l : List (Nat × Nat)) : ∀ u ∈ celsC l, u.oneCell' = true := by
  intro u hu
  simp only [celsC, celC, List.mem_flatMap] at hu
  obtain ⟨c, _, hc⟩ := hu
  simp at hc
  rcases hc with rfl | rfl <;> rfl
/-- One more of an area's cells. -/
def celPart (zs : List Int) (k i : Nat) : List (Nat × Nat) := celTo zs k ++ (List.range i).map fun i => (k, i)
theorem celPart_0 (zs : List Int) (k : Nat) : celPart zs k 0 = celTo zs k := by simp [celPart]
theorem celPart_all (zs : List Int) (k : Nat) : celPart zs k (sz zs k) = celTo zs (k + 1) := rfl
theorem celPart_next (zs : List Int) (k i : Nat) : celPart zs k (i + 1) = celPart zs k i ++ [(k, i)] := by simp [celPart, List.range_succ]
theorem celPart_len (zs : List Int) (k i : Nat) : (celPart zs k i).length = pre zs k + i := by simp [celPart, celTo_len]
end
end Go.Proofs.Ytpinpipjlongaaa

/- Layer 13 as plain lists: what the document says of a trace, entry by entry, and the same as a machine that goes on from entry to entry: over any program. No walk stands here. -/
namespace Go.Proofs.Ytpinpipjlongaaa
set_option linter.unusedVariables false

/-- An entry. -/
structure En where
  kind : Int
  th : Int
  now : Int
/-- The kind of a thread's last entry (0: it has none). -/
def lastD (l : List En) (t : Int) : Int := l.foldl (fun k x => if x.th = t then x.kind else k) 0
theorem lastD_nil (t : Int) : lastD [] t = 0 := rfl
theorem lastD_snoc (l : List En) (x : En) (t : Int) : lastD (l ++ [x]) t = if x.th = t then x.kind else lastD l t := by simp [lastD, List.foldl_append]
/-- Does the i'th entry stand for one who is in the queue? -/
def qAt (l : List En) (i : Nat) : Option Int := match l[i]? with
  | some x => if x.kind = 2 ∧ lastD l x.th = 2 ∧ lastD (l.drop (i + 1)) x.th = 0 then some x.th else none
  | none => none
def queueD (l : List En) : List Int := (List.range l.length).filterMap (qAt l)
/-- One who is granted, holds or leaves. -/
def ownK (k : Int) : Bool := decide (k = 3 ∨ k = 5 ∨ k = 8)
def ownerD (l : List En) : Int := match l.reverse.find? (fun x => ownK (lastD l x.th)) with
  | some x => x.th
  | none => -1
/-- Does an entry fit, as far as its tick goes? -/
def nowD (l : List En) (x : En) : Prop := 0 ≤ x.now ∧ match l.getLast? with
  | some y => y.now ≤ x.now
  | none => True
/-- Does an entry fit behind others that do? -/
def kindD (last : Int) (q : List Int) (ow : Int) (x : En) : Prop :=
  (x.kind = 1 ∧ (last = 0 ∨ last = 6 ∨ last = 7 ∨ last = 10)) ∨ ((x.kind = 2 ∨ x.kind = 7) ∧ last = 1) ∨ (x.kind = 3 ∧ last = 2 ∧ q.head? = some x.th ∧ ow = -1) ∨ (x.kind = 4 ∧ last = 2) ∨
  (x.kind = 5 ∧ last = 3) ∨ (x.kind = 6 ∧ last = 4) ∨ (x.kind = 8 ∧ last = 5) ∨ (x.kind = 9 ∧ last = 8) ∨ (x.kind = 10 ∧ last = 9)
instance (last : Int) (q : List Int) (ow : Int) (x : En) : Decidable (kindD last q ow x) := by unfold kindD; infer_instance
instance (l : List En) (x : En) : Decidable (nowD l x) := by
  unfold nowD
  cases l.getLast? <;> infer_instance
def fitsD (n : Int) (l : List En) (x : En) : Prop := 0 ≤ x.th ∧ x.th < n ∧ nowD l x ∧ kindD (lastD l x.th) (queueD l) (ownerD l) x
instance (n : Int) (l : List En) (x : En) : Decidable (fitsD n l x) := by unfold fitsD; infer_instance
/-- All fit. -/
def Trace (n : Int) (l : List En) : Prop := ∀ k x, l[k]? = some x → fitsD n (l.take k) x

/-- The machine: each thread's last entry, the queue, the owner (-1: none). -/
structure Fa where
  la : Int → Int
  q : List Int
  ow : Int
def fa0 : Fa := ⟨fun _ => 0, [], -1⟩
def faStep (a : Fa) (x : En) : Fa :=
  ⟨fun t => if x.th = t then x.kind else a.la t, a.q.filter (fun t => t != x.th) ++ (if x.kind = 2 then [x.th] else []), if ownK x.kind then x.th else if x.th = a.ow then -1 else a.ow⟩
def faRun (l : List En) : Fa := l.foldl faStep fa0
def fitsA (n : Int) (a : Fa) (x : En) : Prop := 0 ≤ x.th ∧ x.th < n ∧ kindD (a.la x.th) a.q a.ow x
theorem faRun_snoc (l : List En) (x : En) : faRun (l ++ [x]) = faStep (faRun l) x := by simp [faRun, List.foldl_append]
theorem faRun_nil : faRun [] = fa0 := rfl

theorem snoc_ind {α : Type} {P : List α → Prop} (h0 : P []) (h1 : ∀ l x, P l → P (l ++ [x])) (l : List α) : P l := by
  have : ∀ n (l : List α), l.length = n → P l := by
    intro n
    induction n with
    | zero => intro l h; rw [List.eq_nil_of_length_eq_zero h]; exact h0
    | succ n ih =>
      intro l h
      have hne : l ≠ [] := fun e => by rw [e] at h; simp at h
      rw [← List.dropLast_concat_getLast hne]
      exact h1 _ _ (ih _ (by simp [h]))
  exact this _ l rfl

theorem la_is (l : List En) : (faRun l).la = lastD l := by
  refine snoc_ind (P := fun l => (faRun l).la = lastD l) ?_ ?_ l
  · rfl
  · intro l x ih
    funext t
    rw [faRun_snoc, lastD_snoc]
    show (if x.th = t then x.kind else (faRun l).la t) = _
    rw [ih]

theorem qAt_snoc (l : List En) (x : En) (i : Nat) (hi : i < l.length) : qAt (l ++ [x]) i = (qAt l i).filter (fun t => t != x.th) := by
  unfold qAt
  rw [List.getElem?_append_left hi, List.getElem?_eq_getElem hi]
  simp only
  have hd : (l ++ [x]).drop (i + 1) = l.drop (i + 1) ++ [x] := by rw [List.drop_append_of_le_length (by omega)]
  rw [hd, lastD_snoc, lastD_snoc]
  generalize l[i] = y
  by_cases e : x.th = y.th
  · rw [if_pos e, if_pos e]
    rw [if_neg (by omega)]
    split
    · simp only [Option.filter_some]
      have : (y.th != x.th) = false := by simp [e]
      rw [this]; rfl
    · rfl
  · rw [if_neg e, if_neg e]
    split
    · simp only [Option.filter_some]
      have : (y.th != x.th) = true := by simp; exact fun h => e h.symm
      rw [this]; rfl
    · rfl
theorem filterMap_filter {α β : Type} (f : α → Option β) (p : β → Bool) (l : List α) : l.filterMap (fun a => (f a).filter p) = (l.filterMap f).filter p := by
  induction l with
  | nil => rfl
  | cons a l ih =>
    simp only [List.filterMap_cons, ih]
    cases h : f a with
    | none => simp
    | some b =>
      simp only [Option.filter_some]
      cases hp : p b <;> simp [hp]
theorem filterMap_same {α β : Type} {f g : α → Option β} : ∀ l : List α, (∀ a ∈ l, f a = g a) → l.filterMap f = l.filterMap g
  | [], _ => rfl
  | a :: l, h => by
    rw [List.filterMap_cons, List.filterMap_cons, h a (by simp), filterMap_same l fun b hb => h b (by simp [hb])]
theorem lastD_one (x : En) : lastD [x] x.th = x.kind := by simp [lastD]
theorem queueD_snoc (l : List En) (x : En) : queueD (l ++ [x]) = (queueD l).filter (fun t => t != x.th) ++ (if x.kind = 2 then [x.th] else []) := by
  unfold queueD
  rw [List.length_append, List.length_singleton, List.range_succ, List.filterMap_append]
  congr 1
  · rw [← filterMap_filter]
    refine filterMap_same _ fun i hi => ?_
    exact qAt_snoc l x i (List.mem_range.1 hi)
  · have : qAt (l ++ [x]) l.length = if x.kind = 2 then some x.th else none := by
      unfold qAt
      rw [List.getElem?_append_right (Nat.le_refl _), Nat.sub_self]
      simp only [List.getElem?_cons_zero]
      rw [lastD_snoc, if_pos rfl, List.drop_of_length_le (by simp), lastD_nil]
      by_cases e : x.kind = 2 <;> simp [e]
    simp only [List.filterMap_cons, List.filterMap_nil, this]
    by_cases e : x.kind = 2 <;> simp [e]
theorem q_is (l : List En) : (faRun l).q = queueD l := by
  refine snoc_ind (P := fun l => (faRun l).q = queueD l) ?_ ?_ l
  · rfl
  · intro l x ih
    rw [faRun_snoc, queueD_snoc, ← ih]; rfl

theorem trace_nil (n : Int) : Trace n [] := fun k x h => by simp at h
theorem trace_snoc {n : Int} {l : List En} {x : En} : Trace n (l ++ [x]) ↔ Trace n l ∧ fitsD n l x := by
  constructor
  · intro h
    refine ⟨fun k y hk => ?_, ?_⟩
    · have hlt : k < l.length := (List.getElem?_eq_some_iff.1 hk).1
      have := h k y (by rw [List.getElem?_append_left hlt]; exact hk)
      rwa [List.take_append_of_le_length (by omega)] at this
    · have := h l.length x (by simp)
      rwa [List.take_append_of_le_length (Nat.le_refl _), List.take_length] at this
  · rintro ⟨h1, h2⟩ k y hk
    by_cases hlt : k < l.length
    · rw [List.getElem?_append_left hlt] at hk
      rw [List.take_append_of_le_length (by omega)]
      exact h1 k y hk
    · have hkl : k = l.length := by
        have := (List.getElem?_eq_some_iff.1 hk).1
        simp at this; omega
      subst hkl
      rw [List.getElem?_append_right (Nat.le_refl _), Nat.sub_self] at hk
      simp at hk
      subst hk
      rw [List.take_append_of_le_length (Nat.le_refl _), List.take_length]
      exact h2

/-- In a trace just one is the owner: the one whose last entry says so. -/
def OwnP (n : Int) (l : List En) : Prop := Trace n l → (∀ t, ownK (lastD l t) = true ↔ ((faRun l).ow = t ∧ 0 ≤ t)) ∧ (faRun l).ow = ownerD l ∧ -1 ≤ (faRun l).ow ∧ (∀ x ∈ l, 0 ≤ x.th)
theorem owner_iff {n : Int} (l : List En) : OwnP n l := by
  refine snoc_ind (P := OwnP n) ?_ ?_ l
  · intro _
    refine ⟨fun t => ?_, rfl, by simp [faRun, fa0], by simp⟩
    simp only [lastD_nil, faRun_nil, fa0]
    constructor
    · intro h; simp [ownK] at h
    · rintro ⟨h1, h2⟩; omega
  · intro l x ih h
    obtain ⟨hl, f0, f1, f2, fk⟩ := trace_snoc.1 h
    obtain ⟨i1, i2, i3, i4⟩ := ih hl
    have hA : ∀ t, ownK (lastD (l ++ [x]) t) = true ↔ ((faRun (l ++ [x])).ow = t ∧ 0 ≤ t) := by
      intro t
      rw [lastD_snoc, faRun_snoc]
      show _ ↔ ((if ownK x.kind then x.th else if x.th = (faRun l).ow then -1 else (faRun l).ow) = t ∧ 0 ≤ t)
      by_cases ho : ownK x.kind = true
      · rw [if_pos ho]
        by_cases e : x.th = t
        · subst e; rw [if_pos rfl]; simp [ho, f0]
        · rw [if_neg e, i1 t]
          constructor
          · rintro ⟨e1, e2⟩
            exfalso
            -- another one owns it: then x isn't one of these
            unfold kindD at fk
            have hk : x.kind = 3 ∨ x.kind = 5 ∨ x.kind = 8 := of_decide_eq_true ho
            rcases hk with hk | hk | hk
            · rw [← i2] at fk; omega
            · have hx : ownK (lastD l x.th) = true := by
                unfold ownK; refine decide_eq_true ?_; omega
              have := (i1 x.th).1 hx
              omega
            · have hx : ownK (lastD l x.th) = true := by
                unfold ownK; refine decide_eq_true ?_; omega
              have := (i1 x.th).1 hx
              omega
          · rintro ⟨e1, _⟩; exact absurd e1 e
      · rw [if_neg ho]
        by_cases e : x.th = t
        · subst e
          rw [if_pos rfl]
          constructor
          · intro h2; exact absurd h2 ho
          · rintro ⟨e1, e2⟩
            exfalso
            split at e1 <;> omega
        · rw [if_neg e, i1 t]
          constructor
          · rintro ⟨e1, e2⟩
            refine ⟨?_, e2⟩
            rw [if_neg (by omega)]; exact e1
          · rintro ⟨e1, e2⟩
            refine ⟨?_, e2⟩
            split at e1 <;> omega
    have hI4 : ∀ y ∈ l ++ [x], 0 ≤ y.th := by
      intro y hy
      rcases List.mem_append.1 hy with hy | hy
      · exact i4 y hy
      · simp at hy; subst hy; exact f0
    have hI3 : -1 ≤ (faRun (l ++ [x])).ow := by
      rw [faRun_snoc]
      show -1 ≤ (if ownK x.kind then x.th else if x.th = (faRun l).ow then -1 else (faRun l).ow)
      split
      · omega
      · split <;> omega
    refine ⟨hA, ?_, hI3, hI4⟩
    unfold ownerD
    cases hf : (l ++ [x]).reverse.find? (fun y => ownK (lastD (l ++ [x]) y.th)) with
    | some y =>
      have := List.find?_some hf
      exact ((hA y.th).1 this).1
    | none =>
      simp only
      rw [List.find?_eq_none] at hf
      by_cases hc : (faRun (l ++ [x])).ow = -1
      · exact hc
      · exfalso
        have h2 := (hA (faRun (l ++ [x])).ow).2 ⟨rfl, by omega⟩
        -- it has an entry, for its last one isn't 0
        have hex : ∃ y ∈ l ++ [x], y.th = (faRun (l ++ [x])).ow := by
          by_cases hn : ∃ y ∈ l ++ [x], y.th = (faRun (l ++ [x])).ow
          · exact hn
          · exfalso
            have h0 : ∀ (m : List En), (∀ y ∈ m, ¬ y.th = (faRun (l ++ [x])).ow) → lastD m (faRun (l ++ [x])).ow = 0 := by
              intro m
              refine snoc_ind (P := fun m => (∀ y ∈ m, ¬ y.th = (faRun (l ++ [x])).ow) → lastD m (faRun (l ++ [x])).ow = 0) ?_ ?_ m
              · intro _; rfl
              · intro m z ihm hm
                rw [lastD_snoc, if_neg (hm z (by simp))]
                exact ihm fun y hy => hm y (by simp [hy])
            rw [h0 _ (fun y hy e => hn ⟨y, hy, e⟩)] at h2
            simp [ownK] at h2
        obtain ⟨y, hy, e⟩ := hex
        have := hf y (by rw [List.mem_reverse]; exact hy)
        rw [e, h2] at this
        exact this rfl

theorem fits_iff {n : Int} {l : List En} {x : En} (h : Trace n l) : fitsD n l x ↔ nowD l x ∧ fitsA n (faRun l) x := by
  unfold fitsD fitsA
  rw [la_is, q_is, (owner_iff l h).2.1]
  constructor
  · rintro ⟨a, b, c, d⟩; exact ⟨c, a, b, d⟩
  · rintro ⟨c, a, b, d⟩; exact ⟨a, b, c, d⟩
/-- Entries of the same tick. -/
theorem trace_more {n : Int} {l : List En} {x : En} (h : Trace n l) (hl : ∀ y ∈ l, y.now = 0) (hx : x.now = 0) (hf : fitsA n (faRun l) x) : Trace n (l ++ [x]) := by
  rw [trace_snoc]
  refine ⟨h, (fits_iff h).2 ⟨⟨by omega, ?_⟩, hf⟩⟩
  cases hg : l.getLast? with
  | none => trivial
  | some y =>
    have := hl y (List.mem_of_getLast? hg)
    show y.now ≤ x.now
    omega

/-- Who is in the queue: those whose last entry is an Enq; each once, each a thread. -/
theorem mem_q {n : Int} (l : List En) (h : Trace n l) : (∀ t, t ∈ (faRun l).q ↔ lastD l t = 2) ∧ (faRun l).q.Nodup ∧ (∀ t ∈ (faRun l).q, 0 ≤ t ∧ t < n) := by
  refine snoc_ind (P := fun l => Trace n l → (∀ t, t ∈ (faRun l).q ↔ lastD l t = 2) ∧ (faRun l).q.Nodup ∧ (∀ t ∈ (faRun l).q, 0 ≤ t ∧ t < n)) ?_ ?_ l h
  · intro _
    simp [faRun, fa0, lastD]
  · intro l x ih h
    obtain ⟨hl, f0, f1, f2, fk⟩ := trace_snoc.1 h
    obtain ⟨i1, i2, i3⟩ := ih hl
    have e : (faRun (l ++ [x])).q = (faRun l).q.filter (fun t => t != x.th) ++ (if x.kind = 2 then [x.th] else []) := by rw [faRun_snoc]; rfl
    rw [e]
    have hm : ∀ t, t ∈ (faRun l).q.filter (fun t => t != x.th) ↔ (t ∈ (faRun l).q ∧ t ≠ x.th) := fun t => by simp [List.mem_filter]
    refine ⟨fun t => ?_, ?_, fun t ht => ?_⟩
    · rw [lastD_snoc, List.mem_append, hm, i1]
      by_cases et : x.th = t
      · subst et
        by_cases ek : x.kind = 2 <;> simp [ek]
      · rw [if_neg et]
        have et2 : ¬ t = x.th := fun e => et e.symm
        by_cases ek : x.kind = 2 <;> simp [ek, et2]
    · refine List.nodup_append.2 ⟨i2.filter _, by split <;> simp, fun a ha b hb => ?_⟩
      have := (hm a).1 ha
      split at hb
      · simp at hb; subst hb; exact this.2
      · simp at hb
    · rcases List.mem_append.1 ht with ht | ht
      · exact i3 t ((hm t).1 ht).1
      · split at ht
        · simp at ht; subst ht; exact ⟨f0, f1⟩
        · simp at ht
theorem nodup_few : ∀ (k : Nat) (l : List Int), l.Nodup → (∀ t ∈ l, 0 ≤ t ∧ t < (k : Int)) → l.length ≤ k
  | 0, l, _, h => by
    cases l with
    | nil => simp
    | cons q r => have := h q (by simp); omega
  | k + 1, l, hd, h => by
    have h1 := nodup_few k (l.erase (k : Int)) (hd.erase _) (fun q hq => by
      have hm := hd.mem_erase_iff.1 hq
      have := h q hm.2
      have := hm.1
      omega)
    by_cases hm : (k : Int) ∈ l
    · have := List.length_erase_of_mem hm; omega
    · rw [List.erase_of_not_mem hm] at h1; omega
/-- One who isn't in the queue doesn't leave it. -/
theorem filter_not {q : List Int} {t : Int} (h : t ∉ q) : q.filter (fun x => x != t) = q := by
  rw [List.filter_eq_self]
  intro a ha
  have : a ≠ t := fun e => h (e ▸ ha)
  simpa using this
theorem filter_head {q : List Int} {t : Int} (h : (t :: q).Nodup) : (t :: q).filter (fun x => x != t) = q := by
  rw [List.filter_cons]
  simp only [bne_self_eq_false, Bool.false_eq_true, if_false]
  exact filter_not (List.nodup_cons.1 h).1

/-- Who has an entry is a thread. -/
theorem last_thread {n : Int} (l : List En) (h : Trace n l) (t : Int) (ht : lastD l t ≠ 0) : 0 ≤ t ∧ t < n := by
  revert ht
  refine snoc_ind (P := fun l => Trace n l → lastD l t ≠ 0 → 0 ≤ t ∧ t < n) ?_ ?_ l h
  · intro _ h0; exact absurd rfl h0
  · intro l x ih h h0
    obtain ⟨hl, f0, f1, _⟩ := trace_snoc.1 h
    rw [lastD_snoc] at h0
    split at h0
    · omega
    · exact ih hl h0

section
variable {n : Int} {l : List En} {x : En}
theorem q_other (h : Trace n l) (hk : x.kind ≠ 2) (hl : lastD l x.th ≠ 2) : (faRun (l ++ [x])).q = (faRun l).q := by
  rw [faRun_snoc]
  show (faRun l).q.filter _ ++ _ = _
  rw [filter_not (fun hm => hl (((mem_q l h).1 _).1 hm)), if_neg hk, List.append_nil]
theorem q_enq (h : Trace n l) (hk : x.kind = 2) (hl : lastD l x.th ≠ 2) : (faRun (l ++ [x])).q = (faRun l).q ++ [x.th] := by
  rw [faRun_snoc]
  show (faRun l).q.filter _ ++ _ = _
  rw [filter_not (fun hm => hl (((mem_q l h).1 _).1 hm)), if_pos hk]
theorem q_head {rest : List Int} (h : Trace n l) (hk : x.kind ≠ 2) (hq : (faRun l).q = x.th :: rest) : (faRun (l ++ [x])).q = rest := by
  have hd := (mem_q l h).2.1
  rw [faRun_snoc]
  show (faRun l).q.filter _ ++ _ = _
  rw [hq] at hd ⊢
  rw [filter_head hd, if_neg hk, List.append_nil]
theorem q_leave (hk : x.kind ≠ 2) : (faRun (l ++ [x])).q = (faRun l).q.filter (fun t => t != x.th) := by
  rw [faRun_snoc]
  show (faRun l).q.filter _ ++ _ = _
  rw [if_neg hk, List.append_nil]
theorem ow_take (hk : ownK x.kind = true) : (faRun (l ++ [x])).ow = x.th := by
  rw [faRun_snoc]
  show (if ownK x.kind then x.th else _) = _
  rw [if_pos hk]
theorem ow_other (h : Trace n l) (h0 : 0 ≤ x.th) (hk : ownK x.kind = false) (hl : ownK (lastD l x.th) = false) : (faRun (l ++ [x])).ow = (faRun l).ow := by
  have h1 := (owner_iff l h).1 x.th
  rw [faRun_snoc]
  show (if ownK x.kind then x.th else if x.th = (faRun l).ow then -1 else (faRun l).ow) = _
  rw [if_neg (by simp [hk])]
  by_cases e : x.th = (faRun l).ow
  · have := h1.2 ⟨e.symm, h0⟩
    rw [hl] at this; cases this
  · rw [if_neg e]
theorem ow_none (h : Trace n l) (hk : ownK x.kind = false) (hl : ownK (lastD l x.th) = true) : (faRun (l ++ [x])).ow = -1 := by
  have h1 := ((owner_iff l h).1 x.th).1 hl
  rw [faRun_snoc]
  show (if ownK x.kind then x.th else if x.th = (faRun l).ow then -1 else (faRun l).ow) = _
  rw [if_neg (by simp [hk]), if_pos h1.1.symm]
/-- Just one is the owner. -/
theorem ow_only (h : Trace n l) {s t : Int} (hs : ownK (lastD l s) = true) (ht : ownK (lastD l t) = true) : s = t := by
  have h1 := ((owner_iff l h).1 s).1 hs
  have h2 := ((owner_iff l h).1 t).1 ht
  omega
theorem ow_is (h : Trace n l) {t : Int} (ht : ownK (lastD l t) = true) : (faRun l).ow = t := (((owner_iff l h).1 t).1 ht).1
theorem last_other (k : Int) (s t : Nat) (c : Int) (h : s ≠ t) : lastD (l ++ [⟨k, (t : Int), c⟩]) (s : Int) = lastD l s := by
  rw [lastD_snoc, if_neg (by show ¬ ((t : Int) = s); omega)]
theorem last_same (k t c : Int) : lastD (l ++ [⟨k, t, c⟩]) t = k := by rw [lastD_snoc]; simp
theorem now_more {k t : Int} (h : ∀ y ∈ l, y.now = 0) : ∀ y ∈ l ++ [⟨k, t, 0⟩], y.now = 0 := by
  intro y hy
  rcases List.mem_append.1 hy with hy | hy
  · exact h y hy
  · simp at hy; subst hy; rfl
end

/-- How many fit, from the first one on. -/
def checkD (n : Int) (l : List En) : Nat := ((List.range l.length).find? fun k => match l[k]? with
  | some x => !decide (fitsD n (l.take k) x)
  | none => false).getD l.length
theorem checkD_all {n : Int} {l : List En} (h : Trace n l) : checkD n l = l.length := by
  unfold checkD
  have : ((List.range l.length).find? fun k => match l[k]? with
    | some x => !decide (fitsD n (l.take k) x)
    | none => false) = none := by
    rw [List.find?_eq_none]
    intro k hk
    cases hx : l[k]? with
    | none => simp
    | some x => simp [h k x hx]
  rw [this]; rfl
end Go.Proofs.Ytpinpipjlongaaa

/- Layer 10 as plain lists: a lock at work, a step of it, what it comes to; and who calls it when (as the document's runs have it). No walk stands here. -/
namespace Go.Proofs.Ytpinpipjlongaaa
set_option linter.unusedVariables false

/-- What a lock at work never changes: its program, its areas, its nodes for each thread, how many threads. -/
structure Lk where
  l : List Ins
  lo : Int
  un : Int
  zs : List Int
  each : Nat
  n : Nat
/-- A core. -/
structure Cor where
  xs : List Int
  pc : Int
/-- Nodes, numbered from 0 on: each thread's free ones, in order; each one's generation, and whether it is out (1). -/
structure Pn where
  free : Nat → List Nat
  gen : List Int
  out : List Int
/-- What it changes: all words, its nodes, its cores. -/
structure Mc where
  ws : List Int
  pn : Pn
  cs : Nat → Cor
/-- What a step comes to. -/
structure Ot where
  ms : List Int
  done : Int
  addr : Int
  wrote : Bool
  stay : Bool
  e : Int

/-- A function changed at one place. -/
def updN {α : Type} (f : Nat → α) (t : Nat) (v : α) : Nat → α := fun i => if i = t then v else f i
theorem updN_same {α : Type} (f : Nat → α) (t : Nat) (v : α) : updN f t v t = v := by simp [updN]
theorem updN_other {α : Type} {f : Nat → α} {t i : Nat} {v : α} (h : i ≠ t) : updN f t v i = f i := by simp [updN, h]

/-- A node's handle. -/
def hdlN (gen : List Int) (q : Nat) : Int := nth gen q * 4096 + ((q : Int) + 1)
/-- Has a node that is out this handle? -/
def isN (gen out : List Int) (h : Int) : Bool := decide (1 ≤ h % 4096 ∧ h % 4096 ≤ (out.length : Int) ∧ nth out (h % 4096 - 1).toNat = 1 ∧ hdlN gen (h % 4096 - 1).toNat = h)
def takeN (p : Pn) (t : Nat) : Pn × Int := match p.free t with
  | [] => (p, 0)
  | q :: rest => (⟨updN p.free t rest, p.gen, p.out.set q 1⟩, hdlN p.gen q)
/-- A node comes back (none: it isn't out by that handle). -/
def backN (each : Nat) (p : Pn) (h : Int) : Option Pn :=
  if h = 0 then some p
  else if isN p.gen p.out h then
    let q := (h % 4096 - 1).toNat
    some ⟨updN p.free (q / each) (p.free (q / each) ++ [q]), p.gen.set q ((h / 4096 + 1) % 262144), p.out.set q 0⟩
  else none
def newN (n each : Nat) : Pn := ⟨fun t => (List.range each).map fun i => t * each + i, List.replicate (n * each) 0, List.replicate (n * each) 0⟩
/-- How many of a thread's nodes are out. -/
def manyN (each : Nat) (p : Pn) (t : Nat) : Int := (each : Int) - ((p.free t).length : Int)

/-- Where the cell of a word in an area stands. -/
def findM (zs : List Int) (area v : Int) : Option Nat :=
  if 0 ≤ area ∧ area < zs.length ∧ v % 4096 < sz zs area.toNat then some (pre zs area.toNat + (v % 4096).toNat) else none

/-- What is local. -/
def runM (k : Lk) (m : Mc) (t : Nat) (c : Cor) (o : Ot) : Mc × Ot :=
  let r := runL (t : Int) k.l 256 c.xs c.pc []
  ({ m with cs := updN m.cs t ⟨r.xs, r.pc⟩ }, { o with ms := r.ms, done := r.done, e := r.e })
def beginM (k : Lk) (m : Mc) (t : Nat) (unlock : Bool) : Mc × Ot :=
  runM k m t ⟨(m.cs t).xs, if unlock then k.un else k.lo⟩ ⟨[], 0, -1, false, false, 0⟩
def trapO : Ot := ⟨[], -1, -1, false, false, 11⟩
/-- The instruction of the memory at which a core stands. -/
def memI (k : Lk) (pc : Int) : Option Ins := if pc < 0 then none else match k.l[pc.toNat]? with
  | some i => if memB i.op then some i else none
  | none => none
/-- An access of the cell a. -/
def accM (k : Lk) (m : Mc) (t : Nat) (c : Cor) (late : Bool) (i : Ins) (a : Nat) : Mc × Ot :=
  let v := nth c.xs i.t.toNat
  let u := nth c.xs i.u.toNat
  let was := nth m.ws a
  let d := i.d.toNat
  let o : Ot := ⟨[], 0, a, false, false, 0⟩
  if i.op = 16 then runM k m t ⟨c.xs.set d was, c.pc + 1⟩ o
  else if i.op = 17 then runM k { m with ws := m.ws.set a v } t ⟨c.xs, c.pc + 1⟩ { o with wrote := true }
  else if i.op = 18 then runM k { m with ws := m.ws.set a v } t ⟨c.xs.set d was, c.pc + 1⟩ { o with wrote := true }
  else if i.op = 19 then
    if was = v then runM k { m with ws := m.ws.set a u } t ⟨c.xs.set d 1, c.pc + 1⟩ { o with wrote := true }
    else runM k m t ⟨c.xs.set d 0, c.pc + 1⟩ o
  else if i.op = 20 then runM k { m with ws := m.ws.set a ((was + i.k) % 4294967296) } t ⟨c.xs.set d was, c.pc + 1⟩ { o with wrote := true }
  else
    let holds := decide (was = v) != decide (i.k = 1)
    if holds then runM k m t ⟨c.xs.set d was, c.pc + 1⟩ o
    else if late = false ∨ i.pl < 0 then ({ m with cs := updN m.cs t ⟨c.xs.set d was, c.pc⟩ }, { o with stay := true, done := -1 })
    else runM k m t ⟨c.xs.set d was, i.pl⟩ o
def stepM (k : Lk) (m : Mc) (t : Nat) (late : Bool) : Mc × Ot :=
  let c := m.cs t
  match memI k c.pc with
  | none => (m, trapO)
  | some i =>
    let s := nth c.xs i.s.toNat
    if i.op = 22 then
      let r := takeN m.pn t
      runM k { m with pn := r.1 } t ⟨c.xs.set i.d.toNat r.2, c.pc + 1⟩ ⟨[], 0, -1, false, false, 0⟩
    else if i.op = 23 then match backN k.each m.pn s with
      | none => (m, trapO)
      | some p => runM k { m with pn := p } t ⟨c.xs, c.pc + 1⟩ ⟨[], 0, -1, false, false, 0⟩
    else match findM k.zs i.a s with
      | none => (m, trapO)
      | some a => accM k m t c late i a
def newM (k : Lk) (init r7 : List Int) : Mc := ⟨init, newN k.n k.each, fun t => ⟨[0, 0, 0, 0, 0, 0, 0, nth r7 t], 0⟩⟩

/-- A run: the lock, what each thread does (0 nothing, 1 locks, 2 has the lock, 3 unlocks), what was marked; whether something was wrong. -/
structure Rn where
  m : Mc
  act : Nat → Int
  l : List En
  bad : Bool
/-- An operation: 1 a call to lock, 2 to unlock, else a step; by whom; late. -/
structure Opn3 where
  kind : Int
  t : Int
  late : Bool
def enter (r : Rn) (kind : Int) (t : Nat) : Rn := { r with l := r.l ++ [⟨kind, t, 0⟩] }
def markK (k : Int) : Int := if k = 1 then 2 else if k = 2 then 3 else if k = 3 then 4 else if k = 4 then 9 else 0
def marksR (r : Rn) (t : Nat) (ms : List Int) : Rn := { r with l := r.l ++ ms.map fun k => ⟨markK k, (t : Int), 0⟩ }
def cameR (r : Rn) (t : Nat) (o : Ot) : Rn :=
  let r := marksR r t o.ms
  if o.e ≠ 0 ∨ (0 ≤ o.done ∧ ¬ ((o.done = 2) ↔ (r.act t = 3))) then { r with bad := true }
  else if o.done = 0 then { enter r 6 t with act := updN r.act t 0 }
  else if o.done = 1 then { enter r 5 t with act := updN r.act t 2 }
  else if o.done = 2 then { enter r 10 t with act := updN r.act t 0 }
  else if o.done = 3 then { enter r 7 t with act := updN r.act t 0 }
  else r
def opR (k : Lk) (r : Rn) (o : Opn3) : Rn :=
  if o.t < 0 ∨ (k.n : Int) ≤ o.t ∨ r.bad = true then r
  else
    let t := o.t.toNat
    if o.kind = 1 then
      if r.act t = 0 then
        let r := enter { r with act := updN r.act t 1 } 1 t
        let x := beginM k r.m t false
        cameR { r with m := x.1 } t x.2
      else r
    else if o.kind = 2 then
      if r.act t = 2 then
        let r := enter { r with act := updN r.act t 3 } 8 t
        let x := beginM k r.m t true
        cameR { r with m := x.1 } t x.2
      else r
    else if r.act t = 1 ∨ r.act t = 3 then
      let x := stepM k r.m t o.late
      cameR { r with m := x.1 } t x.2
    else r
def runR (k : Lk) (r : Rn) (l : List Opn3) : Rn := l.foldl (opR k) r
def rn0 (k : Lk) (init r7 : List Int) : Rn := ⟨newM k init r7, fun _ => 0, [], false⟩

/-- What holds ahead of each operation holds behind all of them. -/
theorem runR_inv {k : Lk} {I : Rn → Prop} (h : ∀ r o, I r → I (opR k r o)) : ∀ (l : List Opn3) (r : Rn), I r → I (runR k r l)
  | [], r, hr => hr
  | o :: l, r, hr => runR_inv h l _ (h r o hr)

/-- What holds ahead of an operation holds behind it, if it does behind each of the three that do something. -/
theorem opR_keep {k : Lk} {I : Rn → Prop}
    (h1 : ∀ r t, I r → t < k.n → r.bad = false → r.act t = 0 → I (cameR { m := (beginM k r.m t false).1, act := updN r.act t 1, l := r.l ++ [⟨1, t, 0⟩], bad := r.bad } t (beginM k r.m t false).2))
    (h2 : ∀ r t, I r → t < k.n → r.bad = false → r.act t = 2 → I (cameR { m := (beginM k r.m t true).1, act := updN r.act t 3, l := r.l ++ [⟨8, t, 0⟩], bad := r.bad } t (beginM k r.m t true).2))
    (h3 : ∀ r t late, I r → t < k.n → r.bad = false → (r.act t = 1 ∨ r.act t = 3) → I (cameR { r with m := (stepM k r.m t late).1 } t (stepM k r.m t late).2))
    (r : Rn) (o : Opn3) (hr : I r) : I (opR k r o) := by
  unfold opR
  split
  · exact hr
  · rename_i hc
    have ht : o.t.toNat < k.n := by omega
    have hb : r.bad = false := by
      cases hbb : r.bad with
      | false => rfl
      | true => exact absurd (.inr (.inr hbb)) hc
    simp only
    split
    · split
      · exact h1 r _ hr ht hb (by assumption)
      · exact hr
    · split
      · split
        · exact h2 r _ hr ht hb (by assumption)
        · exact hr
      · split
        · exact h3 r _ o.late hr ht hb (by assumption)
        · exact hr

section
variable {r : Rn} {t : Nat} {ad : Int} {wr st : Bool}
theorem came_nothing : cameR r t ⟨[], -1, ad, wr, st, 0⟩ = r := by
  unfold cameR marksR
  simp
theorem came_mark (j : Int) : cameR r t ⟨[j], -1, ad, wr, st, 0⟩ = { r with l := r.l ++ [⟨markK j, t, 0⟩] } := by
  unfold cameR marksR
  simp
theorem came_got (h : r.act t = 1) : cameR r t ⟨[2], 1, ad, wr, st, 0⟩ = { r with act := updN r.act t 2, l := (r.l ++ [⟨3, t, 0⟩]) ++ [⟨5, t, 0⟩] } := by
  unfold cameR marksR enter
  simp [h, markK]
theorem came_got0 (h : r.act t = 1) : cameR r t ⟨[], 1, ad, wr, st, 0⟩ = { r with act := updN r.act t 2, l := r.l ++ [⟨5, t, 0⟩] } := by
  unfold cameR marksR enter
  simp [h]
theorem came_both (h : r.act t = 1) : cameR r t ⟨[1, 2], 1, ad, wr, st, 0⟩ = { r with act := updN r.act t 2, l := ((r.l ++ [⟨2, t, 0⟩]) ++ [⟨3, t, 0⟩]) ++ [⟨5, t, 0⟩] } := by
  unfold cameR marksR enter
  simp [h, markK]
theorem came_over (h : r.act t = 3) : cameR r t ⟨[4], 2, ad, wr, st, 0⟩ = { r with act := updN r.act t 0, l := (r.l ++ [⟨9, t, 0⟩]) ++ [⟨10, t, 0⟩] } := by
  unfold cameR marksR enter
  simp [h, markK]
end
/-- Nobody but the one who does it does anything else behind it. -/
theorem came_act {r : Rn} {t s : Nat} {o : Ot} (h : s ≠ t) : (cameR r t o).act s = r.act s := by
  unfold cameR marksR enter
  simp only
  repeat' split
  all_goals first | rfl | exact updN_other h
theorem opR_act {k : Lk} {r : Rn} {o : Opn3} {s : Nat} (h : o.t ≠ s) : (opR k r o).act s = r.act s := by
  unfold opR
  split
  · rfl
  · rename_i hc
    have hs : s ≠ o.t.toNat := by omega
    simp only
    repeat' split
    all_goals first | rfl | exact came_act hs | exact (came_act hs).trans (updN_other hs)
def tw (x : Int) : Int := x % 4294967296
/-- Does somebody have it? -/
def ow1 (l : List En) : Nat := if (faRun l).ow = -1 then 0 else 1
theorem ow1_le (l : List En) : ow1 l ≤ 1 := by unfold ow1; split <;> omega
theorem ow1_0 {l : List En} (h : ow1 l = 0) : (faRun l).ow = -1 := by
  unfold ow1 at h
  by_cases hh : (faRun l).ow = -1
  · exact hh
  · rw [if_neg hh] at h; omega
/-- Those in the queue and the one who has it are no more than there are. -/
theorem ow1_few {n : Nat} {l : List En} (h : Trace n l) : ow1 l + (faRun l).q.length ≤ n := by
  obtain ⟨m1, m2, m3⟩ := mem_q _ h
  obtain ⟨o1, o2, o3, _⟩ := owner_iff _ h
  unfold ow1
  by_cases hh : (faRun l).ow = -1
  · rw [if_pos hh]
    have := nodup_few n _ m2 m3
    omega
  · rw [if_neg hh]
    have hk := (o1 (faRun l).ow).2 ⟨rfl, by omega⟩
    have hlt := last_thread _ h _ (fun e => by rw [e] at hk; simp [ownK] at hk)
    have hnq : (faRun l).ow ∉ (faRun l).q := fun hm => by
      have := (m1 _).1 hm
      rw [this] at hk
      simp [ownK] at hk
    have := nodup_few n ((faRun l).ow :: (faRun l).q) (List.nodup_cons.2 ⟨hnq, m2⟩) (fun t ht => by
      rcases List.mem_cons.1 ht with e | ht
      · rw [e]; omega
      · exact m3 t ht)
    simp at this
    omega
/-- A step that has an access. -/
theorem step_acc {k : Lk} {m : Mc} {t : Nat} {late : Bool} {i : Ins} {a : Nat} (h : memI k (m.cs t).pc = some i) (h22 : i.op ≠ 22) (h23 : i.op ≠ 23) (hf : findM k.zs i.a (nth (m.cs t).xs i.s.toNat) = some a) :
    stepM k m t late = accM k m t (m.cs t) late i a := by
  unfold stepM
  simp only [h]
  rw [if_neg h22, if_neg h23, hf]
end Go.Proofs.Ytpinpipjlongaaa

/- Layer 10 as plain lists, second part: a step is an access (or a node) and then all that is local; what is known of a right instruction of the memory; what stays. No walk stands here. -/
namespace Go.Proofs.Ytpinpipjlongaaa
set_option linter.unusedVariables false

/-- What an access leaves: all words, the core, whether it wrote, whether it stays. -/
structure Ac where
  ws : List Int
  c : Cor
  wrote : Bool
  stay : Bool
/-- What an await leaves of a core: the cell is v. -/
def awaitC (c : Cor) (i : Ins) (v : Int) (late : Bool) : Cor × Bool :=
  if decide (v = nth c.xs i.t.toNat) == decide (i.k = 0) then (⟨c.xs.set i.d.toNat v, c.pc + 1⟩, false)
  else if late = true ∧ i.pl ≠ -1 then (⟨c.xs.set i.d.toNat v, i.pl⟩, false)
  else (⟨c.xs.set i.d.toNat v, c.pc⟩, true)
def accW (ws : List Int) (c : Cor) (late : Bool) (i : Ins) (a : Nat) : Ac :=
  let v := nth c.xs i.t.toNat
  let u := nth c.xs i.u.toNat
  let was := nth ws a
  let d := i.d.toNat
  if i.op = 16 then ⟨ws, ⟨c.xs.set d was, c.pc + 1⟩, false, false⟩
  else if i.op = 17 then ⟨ws.set a v, ⟨c.xs, c.pc + 1⟩, true, false⟩
  else if i.op = 18 then ⟨ws.set a v, ⟨c.xs.set d was, c.pc + 1⟩, true, false⟩
  else if i.op = 19 then if was = v then ⟨ws.set a u, ⟨c.xs.set d 1, c.pc + 1⟩, true, false⟩ else ⟨ws, ⟨c.xs.set d 0, c.pc + 1⟩, false, false⟩
  else if i.op = 20 then ⟨ws.set a ((was + i.k) % 4294967296), ⟨c.xs.set d was, c.pc + 1⟩, true, false⟩
  else ⟨ws, (awaitC c i was late).1, false, (awaitC c i was late).2⟩

/-- What is known of a right instruction of the memory, of a program of n. -/
structure OkM (i : Ins) (n : Nat) : Prop where
  op : 16 ≤ i.op ∧ i.op ≤ 23
  d : 0 ≤ i.d ∧ i.d ≤ 7
  s : 0 ≤ i.s ∧ i.s ≤ 7
  t : 0 ≤ i.t ∧ i.t ≤ 7
  u : 0 ≤ i.u ∧ i.u ≤ 7
  a : 0 ≤ i.a ∧ i.a ≤ 7
  k : 0 ≤ i.k ∧ i.k < 4294967296
  aw : i.op = 21 → (i.k = 0 ∨ i.k = 1) ∧ (i.pl = -1 ∨ (0 ≤ i.pl ∧ i.pl < n))
theorem okM_of {i : Ins} {n : Nat} (h : rightB i n = true) (k0 : 0 ≤ i.k) (k1 : i.k < 4294967296) (hm : memB i.op = true) : OkM i n := by
  obtain ⟨hd, hs, ht, hu, ha⟩ := right_regs i n h
  have ho := (ok_of h k0 k1).op
  have hop : 16 ≤ i.op ∧ i.op ≤ 23 := by
    unfold memB at hm
    simp only [Bool.and_eq_true, decide_eq_true_eq] at hm
    omega
  refine ⟨hop, hd, hs, ht, hu, ha, ⟨k0, k1⟩, fun e => ?_⟩
  obtain ⟨op, d, s, t, u, a, k, pl⟩ := i
  simp only at e k0 k1 hd hs ht hu ha
  subst e
  rw [right_21 d s t u a k pl n hd hs ht hu ha k0 k1] at h
  simp at h
  simp only
  omega

theorem Eight.put {xs : List Int} (h : Eight xs) (d : Nat) {v : Int} (hv : 0 ≤ v ∧ v < 4294967296) : Eight (xs.set d v) := ⟨by rw [List.length_set]; exact h.1, h.2.set _ _ hv⟩

section
variable {ws : List Int} {c : Cor} {late : Bool} {i : Ins} {a n : Nat}
theorem accW_len : (accW ws c late i a).ws.length = ws.length := by
  unfold accW
  simp only
  repeat' split
  all_goals simp
theorem accW_u32 (hw : U32s ws) (hx : Eight c.xs) : U32s (accW ws c late i a).ws := by
  have h0 := hw.at_ a
  have h1 := hx.2.at_ i.t.toNat
  have h2 := hx.2.at_ i.u.toNat
  unfold accW
  simp only
  repeat' split
  all_goals first | exact hw | exact hw.set _ _ h1 | exact hw.set _ _ h2 | exact hw.set _ _ (by omega)
theorem awaitC_eight {v : Int} (hv : 0 ≤ v ∧ v < 4294967296) (hx : Eight c.xs) : Eight (awaitC c i v late).1.xs := by
  unfold awaitC
  repeat' split
  all_goals exact hx.put _ hv
theorem accW_eight (hw : U32s ws) (hx : Eight c.xs) : Eight (accW ws c late i a).c.xs := by
  have h0 := hw.at_ a
  unfold accW
  simp only
  repeat' split
  all_goals first | exact hx | exact hx.put _ h0 | exact hx.put _ (by omega) | exact awaitC_eight h0 hx
theorem accW_pc (h : OkM i n) (h22 : i.op ≠ 22) (h23 : i.op ≠ 23) (h0 : 0 ≤ c.pc) (h1 : c.pc < n) : 0 ≤ (accW ws c late i a).c.pc ∧ (accW ws c late i a).c.pc ≤ n := by
  have hop := h.op
  by_cases h21 : i.op = 21
  · have := (h.aw h21).2
    unfold accW
    simp only [h21]
    simp only [show ¬ (21 : Int) = 16 by decide, show ¬ (21 : Int) = 17 by decide, show ¬ (21 : Int) = 18 by decide, show ¬ (21 : Int) = 19 by decide, show ¬ (21 : Int) = 20 by decide, if_false]
    unfold awaitC
    repeat' split
    all_goals simp only
    all_goals omega
  · unfold accW awaitC
    simp only
    repeat' split
    all_goals simp only
    all_goals omega
end

section
variable {k : Lk} {m : Mc} {t : Nat} {late : Bool} {i : Ins} {a : Nat}
/-- What is behind an access: it stays, or all that is local is done. -/
def behindM (k : Lk) (m : Mc) (t : Nat) (c : Cor) (addr : Int) (wrote stay : Bool) : Mc × Ot :=
  if stay then ({ m with cs := updN m.cs t c }, ⟨[], -1, addr, wrote, true, 0⟩) else runM k m t c ⟨[], 0, addr, wrote, false, 0⟩
theorem acc_is (h : OkM i k.l.length) (h22 : i.op ≠ 22) (h23 : i.op ≠ 23) (c : Cor) :
    accM k m t c late i a = behindM k { m with ws := (accW m.ws c late i a).ws } t (accW m.ws c late i a).c a (accW m.ws c late i a).wrote (accW m.ws c late i a).stay := by
  have hop := h.op
  unfold accM accW behindM
  simp only
  by_cases h16 : i.op = 16
  · simp [h16]
  by_cases h17 : i.op = 17
  · simp [h17]
  by_cases h18 : i.op = 18
  · simp [h18]
  by_cases h19 : i.op = 19
  · simp only [h19]
    by_cases hw : nth m.ws a = nth c.xs i.t.toNat
    · simp [hw]
    · simp [hw]
  by_cases h20 : i.op = 20
  · simp [h20]
  have h21 : i.op = 21 := by omega
  obtain ⟨hk, hp⟩ := h.aw h21
  simp only [if_neg h16, if_neg h17, if_neg h18, if_neg h19, if_neg h20]
  unfold awaitC
  by_cases hw : nth m.ws a = nth c.xs i.t.toNat
  · rcases hk with hk | hk
    · simp [hw, hk]
    · cases late with
      | true =>
        rcases hp with hp | ⟨hp, _⟩
        · simp [hw, hk, hp]
        · have h1 : ¬ i.pl = -1 := by omega
          have h2 : ¬ i.pl < 0 := by omega
          simp [hw, hk, h1, h2]
      | false => simp [hw, hk]
  · rcases hk with hk | hk
    · cases late with
      | true =>
        rcases hp with hp | ⟨hp, _⟩
        · simp [hw, hk, hp]
        · have h1 : ¬ i.pl = -1 := by omega
          have h2 : ¬ i.pl < 0 := by omega
          simp [hw, hk, h1, h2]
      | false => simp [hw, hk]
    · simp [hw, hk]

/-- What the memory's part of a step leaves (none: a trap). -/
structure Dn where
  m : Mc
  c : Cor
  addr : Int
  wrote : Bool
  stay : Bool
def doM (k : Lk) (m : Mc) (t : Nat) (c : Cor) (late : Bool) (i : Ins) : Option Dn :=
  if i.op = 22 then some ⟨{ m with pn := (takeN m.pn t).1 }, ⟨c.xs.set i.d.toNat (takeN m.pn t).2, c.pc + 1⟩, -1, false, false⟩
  else if i.op = 23 then match backN k.each m.pn (nth c.xs i.s.toNat) with
    | none => none
    | some p => some ⟨{ m with pn := p }, ⟨c.xs, c.pc + 1⟩, -1, false, false⟩
  else match findM k.zs i.a (nth c.xs i.s.toNat) with
    | none => none
    | some a => some ⟨{ m with ws := (accW m.ws c late i a).ws }, (accW m.ws c late i a).c, a, (accW m.ws c late i a).wrote, (accW m.ws c late i a).stay⟩
theorem step_none (h : memI k (m.cs t).pc = none) : stepM k m t late = (m, trapO) := by
  unfold stepM
  simp only [h]
theorem step_do (h : memI k (m.cs t).pc = some i) (ho : OkM i k.l.length) : stepM k m t late = match doM k m t (m.cs t) late i with
    | none => (m, trapO)
    | some r => behindM k r.m t r.c r.addr r.wrote r.stay := by
  unfold stepM doM
  simp only [h]
  by_cases h22 : i.op = 22
  · simp [h22, behindM]
  by_cases h23 : i.op = 23
  · simp only [if_neg h22, if_pos h23]
    cases backN k.each m.pn (nth (m.cs t).xs i.s.toNat) with
    | none => rfl
    | some p => simp [behindM]
  · simp only [if_neg h22, if_neg h23]
    cases findM k.zs i.a (nth (m.cs t).xs i.s.toNat) with
    | none => rfl
    | some a => exact acc_is ho h22 h23 _
theorem memI_is {pc : Int} (h : memI k pc = some i) : 0 ≤ pc ∧ pc < k.l.length ∧ k.l[pc.toNat]? = some i ∧ memB i.op = true := by
  unfold memI at h
  by_cases h0 : pc < 0
  · rw [if_pos h0] at h; cases h
  · rw [if_neg h0] at h
    cases hk : k.l[pc.toNat]? with
    | none => rw [hk] at h; cases h
    | some j =>
      rw [hk] at h
      simp only at h
      by_cases hm : memB j.op = true
      · rw [if_pos hm] at h
        injection h with h
        subst h
        have := (List.getElem?_eq_some_iff.1 hk).1
        exact ⟨by omega, by omega, rfl, hm⟩
      · rw [if_neg hm] at h; cases h
theorem memI_none {pc : Int} (h : memI k pc = none) : pc < 0 ∨ (k.l.length : Int) ≤ pc ∨ ∃ j, 0 ≤ pc ∧ pc < k.l.length ∧ k.l[pc.toNat]? = some j ∧ memB j.op = false := by
  unfold memI at h
  by_cases h0 : pc < 0
  · exact .inl h0
  · rw [if_neg h0] at h
    cases hk : k.l[pc.toNat]? with
    | none => exact .inr (.inl (by have := List.getElem?_eq_none_iff.1 hk; omega))
    | some j =>
      rw [hk] at h
      simp only at h
      have := (List.getElem?_eq_some_iff.1 hk).1
      by_cases hm : memB j.op = true
      · rw [if_pos hm] at h; cases h
      · exact .inr (.inr ⟨j, by omega, by omega, rfl, by simpa using hm⟩)

/-- What always holds of a lock at work: words, cores. -/
structure OkMc (k : Lk) (m : Mc) : Prop where
  ws : U32s m.ws
  len : m.ws.length = tot k.zs
  cs : ∀ t, t < k.n → Eight (m.cs t).xs
/-- .. and of a lock. -/
structure OkLk (k : Lk) : Prop where
  code : prgB ⟨k.l, k.lo, k.un⟩ = true
  k32 : ∀ i ∈ k.l, 0 ≤ i.k ∧ i.k < 4294967296
  zs : RightZ k.zs
  few : tot k.zs ≤ 8192
  n1 : 1 ≤ k.n
  n64 : k.n ≤ 64
  each : k.each ≤ 8
theorem OkLk.parts (h : OkLk k) : 1 ≤ k.l.length ∧ k.l.length ≤ 64 ∧ 0 ≤ k.lo ∧ k.lo < k.l.length ∧ 0 ≤ k.un ∧ k.un < k.l.length ∧ ∀ i ∈ k.l, rightB i k.l.length = true := by
  have hc := h.code
  unfold prgB at hc
  simp only [Bool.and_eq_true, decide_eq_true_eq, List.all_eq_true] at hc
  obtain ⟨h1, h2, h3, h4, h5, h6, h7⟩ := hc
  exact ⟨h1, h2, h3, h5, h4, h6, h7⟩
theorem OkLk.ok (h : OkLk k) : ∀ i ∈ k.l, OkI i := fun i hi => ok_of (h.parts.2.2.2.2.2.2 i hi) (h.k32 i hi).1 (h.k32 i hi).2
theorem OkLk.okM (h : OkLk k) {pc : Int} (hm : memI k pc = some i) : OkM i k.l.length := by
  obtain ⟨_, _, h3, h4⟩ := memI_is hm
  have hi := List.mem_of_getElem? h3
  exact okM_of (h.parts.2.2.2.2.2.2 i hi) (h.k32 i hi).1 (h.k32 i hi).2 h4
theorem updN_eight {cs : Nat → Cor} {c : Cor} {n : Nat} (h : ∀ t, t < n → Eight (cs t).xs) (hc : Eight c.xs) (t : Nat) : ∀ s, s < n → Eight (updN cs t c s).xs := fun s hs => by
  unfold updN
  split
  · exact hc
  · exact h s hs
theorem runM_ok (hk : OkLk k) (hm : OkMc k m) (ht : t < k.n) {c : Cor} (hc : Eight c.xs) (o : Ot) : OkMc k (runM k m t c o).1 := by
  refine ⟨hm.ws, hm.len, ?_⟩
  have := hk.n64
  exact updN_eight hm.cs (runL_eight hk.ok (by omega) (by omega) _ _ _ _ hc) t
theorem begin_ok (hk : OkLk k) (hm : OkMc k m) (ht : t < k.n) (u : Bool) : OkMc k (beginM k m t u).1 := runM_ok hk hm ht (c := ⟨(m.cs t).xs, if u = true then k.un else k.lo⟩) (hm.cs t ht) _
theorem behind_ok (hk : OkLk k) (hm : OkMc k m) (ht : t < k.n) {c : Cor} (hc : Eight c.xs) (ad : Int) (wr st : Bool) : OkMc k (behindM k m t c ad wr st).1 := by
  unfold behindM
  split
  · exact ⟨hm.ws, hm.len, updN_eight hm.cs hc t⟩
  · exact runM_ok hk hm ht hc _
end
end Go.Proofs.Ytpinpipjlongaaa

/- Layer 10 as plain lists, third part: what a step that stays comes to, and the step behind it. No walk stands here. -/
namespace Go.Proofs.Ytpinpipjlongaaa
set_option linter.unusedVariables false

section
variable {k : Lk} {m : Mc} {t : Nat} {late : Bool}
theorem runM_stay (c : Cor) (o : Ot) : (runM k m t c o).2.stay = o.stay := rfl
/-- A step that stays is an await of some cell, which holds what it must not; the register has it, and nothing else is done. -/
theorem stay_is (hk : OkLk k) (h : (stepM k m t late).2.stay = true) : ∃ i a, memI k (m.cs t).pc = some i ∧ i.op = 21 ∧ OkM i k.l.length ∧ findM k.zs i.a (nth (m.cs t).xs i.s.toNat) = some a ∧
    (awaitC (m.cs t) i (nth m.ws a) late) = (⟨(m.cs t).xs.set i.d.toNat (nth m.ws a), (m.cs t).pc⟩, true) ∧
    stepM k m t late = ({ m with cs := updN m.cs t ⟨(m.cs t).xs.set i.d.toNat (nth m.ws a), (m.cs t).pc⟩ }, ⟨[], -1, a, false, true, 0⟩) := by
  cases hm : memI k (m.cs t).pc with
  | none => rw [step_none hm] at h; cases h
  | some i =>
    have ho := hk.okM hm
    have hop := ho.op
    have hs := step_do (late := late) hm ho
    unfold doM at hs
    by_cases h22 : i.op = 22
    · rw [if_pos h22] at hs
      rw [hs] at h
      cases h
    · rw [if_neg h22] at hs
      by_cases h23 : i.op = 23
      · rw [if_pos h23] at hs
        rw [hs] at h
        cases hb : backN k.each m.pn (nth (m.cs t).xs i.s.toNat) with
        | none => rw [hb] at h; cases h
        | some p => rw [hb] at h; cases h
      · rw [if_neg h23] at hs
        cases hf : findM k.zs i.a (nth (m.cs t).xs i.s.toNat) with
        | none => rw [hf] at hs; rw [hs] at h; cases h
        | some a =>
          rw [hf] at hs
          simp only at hs
          by_cases h21 : i.op = 21
          · have hA : accW m.ws (m.cs t) late i a = ⟨m.ws, (awaitC (m.cs t) i (nth m.ws a) late).1, false, (awaitC (m.cs t) i (nth m.ws a) late).2⟩ := by
              unfold accW
              simp [h21]
            rw [hA] at hs
            simp only at hs
            unfold behindM at hs
            by_cases hst : (awaitC (m.cs t) i (nth m.ws a) late).2 = true
            · rw [if_pos hst] at hs
              have hw : awaitC (m.cs t) i (nth m.ws a) late = (⟨(m.cs t).xs.set i.d.toNat (nth m.ws a), (m.cs t).pc⟩, true) := by
                revert hst
                unfold awaitC
                split
                · simp
                · split
                  · simp
                  · simp
              rw [hw] at hs
              exact ⟨i, a, rfl, h21, ho, hf, hw, hs⟩
            · rw [if_neg hst] at hs
              rw [hs] at h
              cases h
          · have hA : (accW m.ws (m.cs t) late i a).stay = false := by
              unfold accW
              simp only
              repeat' split
              all_goals first | rfl | omega
            rw [hA] at hs
            rw [hs] at h
            cases h

/-- Done again it stays again, at the same cell, unless it loads what it asks for. -/
theorem stay_again (hk : OkLk k) (h8 : (m.cs t).xs.length = 8) {i : Ins} (h : (stepM k m t late).2.stay = true) (hi : memI k (m.cs t).pc = some i) (h1 : i.d ≠ i.s) (h2 : i.d ≠ i.t) :
    (stepM k (stepM k m t late).1 t late).2 = (stepM k m t late).2 ∧ (stepM k (stepM k m t late).1 t late).1.cs t = (stepM k m t late).1.cs t := by
  obtain ⟨j, a, hm, h21, ho, hf, hw, hs⟩ := stay_is hk h
  rw [hm] at hi
  injection hi with hi
  subst hi
  obtain ⟨⟨d0, d1⟩, ⟨s0, s1⟩, ⟨t0, t1⟩⟩ := And.intro ho.d (And.intro ho.s ho.t)
  rw [hs]
  simp only
  generalize hc : (⟨(m.cs t).xs.set j.d.toNat (nth m.ws a), (m.cs t).pc⟩ : Cor) = c2 at *
  have hx : c2.xs = (m.cs t).xs.set j.d.toNat (nth m.ws a) := by rw [← hc]
  have hp : c2.pc = (m.cs t).pc := by rw [← hc]
  have n1 : nth c2.xs j.s.toNat = nth (m.cs t).xs j.s.toNat := by
    rw [hx]
    simp only [nth, List.getD_eq_getElem?_getD]
    rw [List.getElem?_set_ne (by omega)]
  have n2 : nth c2.xs j.t.toNat = nth (m.cs t).xs j.t.toNat := by
    rw [hx]
    simp only [nth, List.getD_eq_getElem?_getD]
    rw [List.getElem?_set_ne (by omega)]
  have hm2 : memI k ((({ m with cs := updN m.cs t c2 } : Mc).cs t)).pc = some j := by
    simp only [updN_same]
    rw [hp]
    exact hm
  have hs2 := step_do (late := late) hm2 ho
  unfold doM at hs2
  rw [if_neg (by omega), if_neg (by omega)] at hs2
  simp only [updN_same] at hs2
  rw [n1, hf] at hs2
  have hA : accW m.ws c2 late j a = ⟨m.ws, (awaitC c2 j (nth m.ws a) late).1, false, (awaitC c2 j (nth m.ws a) late).2⟩ := by
    unfold accW
    simp [h21]
  have hset : c2.xs.set j.d.toNat (nth m.ws a) = c2.xs := by rw [hx, List.set_set]
  have hw2 : awaitC c2 j (nth m.ws a) late = (c2, true) := by
    unfold awaitC at hw ⊢
    rw [n2]
    split
    · rename_i hh
      rw [if_pos hh] at hw
      simp at hw
    · rename_i hh
      rw [if_neg hh] at hw
      split
      · rename_i hh2
        rw [if_pos hh2] at hw
        simp at hw
      · rw [hset]
  simp only [hA, hw2] at hs2
  unfold behindM at hs2
  simp only [if_true] at hs2
  rw [hs2]
  simp [updN_same]
end
end Go.Proofs.Ytpinpipjlongaaa
