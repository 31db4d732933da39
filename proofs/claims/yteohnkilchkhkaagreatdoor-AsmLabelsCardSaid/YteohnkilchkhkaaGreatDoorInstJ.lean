/- What the document's Parse makes of words; of a right instruction's text it is the instruction. No walk stands here. -/
import Derived.Test.YteohnkilchkhkaaGreatDoorInstQ
import Derived.Test.YteohnkilchkhkaaGreatDoorInstX
namespace Go.Proofs.YteohnkilchkhkaaGreatDoor
set_option linter.unusedVariables false

/-- The last Op up to n that has this name; 0: none. -/
def opTo (w : List UInt8) : Nat → Int
  | 0 => 0
  | n + 1 => if (nmL ((n : Int) + 1)).isEmpty = false ∧ nmL ((n : Int) + 1) = w then (n : Int) + 1 else opTo w n

/-- A word that may be. -/
def okW (w : List UInt8) : Bool := decide (0 ≤ regL w) || (decide (0 ≤ numL w) || (decide (w = [110, 101]) || (decide (w = [101, 113]) || decide (w = [101, 108, 115, 101]))))
def regOf (w : List UInt8) : List Int := if 0 ≤ regL w then [regL w] else []
def numOf (w : List UInt8) : List Int := if 0 ≤ regL w then [] else if 0 ≤ numL w then [numL w] else []
def isNe (w : List UInt8) : Bool := !decide (0 ≤ regL w) && (!decide (0 ≤ numL w) && decide (w = [110, 101]))
def regsOf (l : List (List UInt8)) : List Int := l.flatMap regOf
def numsOf (l : List (List UInt8)) : List Int := l.flatMap numOf
def kOf (l : List (List UInt8)) : Int := if l.any isNe = true then 1 else 0
/-- Filled up with v to n. -/
def padTo (n : Nat) (v : Int) (l : List Int) : List Int := l ++ List.replicate (n - l.length) v

def finI (op : Int) (rs ns : List Int) (k : Int) : Ins :=
  if op = 1 ∨ op = 3 ∨ op = 4 ∨ op = 5 ∨ op = 6 then ⟨op, nth rs 0, nth rs 1, nth rs 2, 0, 0, nth ns 0 % 4294967296, 0⟩
  else if op = 2 ∨ op = 7 ∨ op = 11 ∨ op = 22 then ⟨op, nth rs 0, nth rs 1, nth rs 2, 0, 0, k, 0⟩
  else if op = 8 ∨ op = 9 ∨ op = 10 then ⟨op, 0, nth rs 0, nth rs 1, 0, 0, k, nth ns 0⟩
  else if op = 12 ∨ op = 13 then ⟨op, 0, 0, 0, 0, 0, nth ns 0 % 4294967296, 0⟩
  else if op = 16 ∨ op = 18 ∨ op = 19 then ⟨op, nth rs 0, nth rs 1, nth rs 2, nth rs 3, nth ns 0, k, 0⟩
  else if op = 20 then ⟨op, nth rs 0, nth rs 1, nth rs 2, nth rs 3, nth ns 0, nth ns 1 % 4294967296, 0⟩
  else if op = 21 then ⟨op, nth rs 0, nth rs 1, nth rs 2, nth rs 3, nth ns 0, k, nth ns 1⟩
  else if op = 17 then ⟨op, 0, nth rs 0, nth rs 1, 0, nth ns 0, k, 0⟩
  else if op = 23 then ⟨op, 0, nth rs 0, 0, 0, 0, k, 0⟩
  else ⟨op, 0, 0, 0, 0, 0, k, 0⟩

/-- The instruction that the document drafts of words. -/
def draftR (ws : List (List UInt8)) : Ins := finI (opTo (ws.getD 0 []) 23) (padTo 4 0 (regsOf ws.tail)) (padTo 2 (-1) (numsOf ws.tail)) (kOf ws.tail)
def parseRB (s : List UInt8) : Bool := (wordsL s).tail.all okW && (rightB (draftR (wordsL s)) 1073741824 && decide (textL (draftR (wordsL s)) = s))

theorem numFrom_app : ∀ (a b : List UInt8) (acc u : Int), numFrom acc a = some u → numFrom acc (a ++ b) = numFrom u b
  | [], b, acc, u, h => by simp [numFrom] at h; subst h; rfl
  | c :: a, b, acc, u, h => by
    simp only [numFrom, List.cons_append] at h ⊢
    split at h
    · rename_i h1
      rw [if_pos h1]
      exact numFrom_app a b _ u h
    · cases h
theorem numFrom_dec : ∀ (n : Nat), numFrom 0 (Lib.decDigits n) = some (n : Int) := by
  intro n
  induction n using Nat.strongRecOn with
  | _ n ih =>
    rw [Lib.decDigits]
    by_cases h : n < 10
    · rw [dif_pos h]
      have e : (UInt8.ofNat (48 + n)).toNat = 48 + n := by rw [UInt8.toNat_ofNat', Nat.mod_eq_of_lt (by omega)]
      simp only [numFrom, e]
      rw [if_pos (by omega)]
      congr 1
      omega
    · rw [dif_neg h, numFrom_app _ _ _ _ (ih (n / 10) (by omega))]
      have e : (UInt8.ofNat (48 + n % 10)).toNat = 48 + n % 10 := by rw [UInt8.toNat_ofNat', Nat.mod_eq_of_lt (by omega)]
      simp only [numFrom, e]
      rw [if_pos (by omega)]
      congr 1
      omega
theorem dec_len10 : ∀ (m n : Nat), n < 10 ^ (m + 1) → (Lib.decDigits n).length ≤ m + 1 := by
  intro m
  induction m with
  | zero => intro n h; rw [Lib.decDigits, dif_pos (by simpa using h)]; simp
  | succ m ih =>
    intro n h
    rw [Lib.decDigits]
    by_cases h9 : n < 10
    · rw [dif_pos h9]; simp
    · rw [dif_neg h9]
      have h2 : n / 10 < 10 ^ (m + 1) := by
        rw [Nat.div_lt_iff_lt_mul (by decide)]
        rw [Nat.pow_succ] at h
        exact h
      have := ih _ h2
      simp
      omega
theorem num_dec (n : Nat) (h : n < 4294967296) : numL (Lib.decDigits n) = n := by
  have hf := numFrom_dec n
  have hl := dec_len10 9 n (by have : (10 : Nat) ^ (9 + 1) = 10000000000 := by decide
                               omega)
  obtain ⟨c, r, e, h1, h2, h3⟩ := dec_cons n
  have h10 : 1 < (Lib.decDigits n).length → 10 ≤ n := by
    intro hh
    by_cases hn : n < 10
    · rw [Lib.decDigits, dif_pos hn] at hh; simp at hh
    · omega
  unfold numL
  rw [if_neg, hf]
  · show (if 4294967295 < (n : Int) then -1 else (n : Int)) = n
    rw [if_neg (by omega)]
  · rintro (hh | hh | ⟨hh, hz⟩)
    · rw [e] at hh; cases hh
    · omega
    · have := h3 (h10 hh)
      rw [e] at hz
      simp at hz
      omega
theorem reg_dec (n : Nat) : regL (Lib.decDigits n) = -1 := by
  obtain ⟨c, r, e, h1, h2, -⟩ := dec_cons n
  unfold regL
  rw [if_neg]
  rintro ⟨-, hh, -⟩
  rw [e] at hh
  simp at hh
  omega
theorem reg_rgw (n : Nat) (h : n ≤ 7) : regL (rgw n) = n := by
  unfold rgw
  rw [Lib.decDigits, dif_pos (by omega)]
  have e : (UInt8.ofNat (48 + n)).toNat = 48 + n := by rw [UInt8.toNat_ofNat', Nat.mod_eq_of_lt (by omega)]
  unfold regL
  rw [if_pos]
  · simp only [List.getD_cons_succ, List.getD_cons_zero, e]; omega
  · refine ⟨rfl, rfl, ?_⟩
    simp only [List.getD_cons_succ, List.getD_cons_zero, e]
    omega
theorem w_rgw (n : Nat) (h : n ≤ 7) : okW (rgw n) = true ∧ regOf (rgw n) = [(n : Int)] ∧ numOf (rgw n) = [] ∧ isNe (rgw n) = false := by
  have e := reg_rgw n h
  unfold okW regOf numOf isNe
  rw [e]
  have h0 : (0 : Int) ≤ (n : Int) := by omega
  simp [h0]
theorem w_dec (n : Nat) (h : n < 4294967296) : okW (Lib.decDigits n) = true ∧ regOf (Lib.decDigits n) = [] ∧ numOf (Lib.decDigits n) = [(n : Int)] ∧ isNe (Lib.decDigits n) = false := by
  have e := num_dec n h
  have e2 := reg_dec n
  unfold okW regOf numOf isNe
  rw [e, e2]
  have h0 : (0 : Int) ≤ (n : Int) := by omega
  simp [h0]
theorem w_eq : okW [101, 113] = true ∧ regOf [101, 113] = [] ∧ numOf [101, 113] = [] ∧ isNe [101, 113] = false := by decide
theorem w_ne : okW [110, 101] = true ∧ regOf [110, 101] = [] ∧ numOf [110, 101] = [] ∧ isNe [110, 101] = true := by decide
theorem w_else : okW [101, 108, 115, 101] = true ∧ regOf [101, 108, 115, 101] = [] ∧ numOf [101, 108, 115, 101] = [] ∧ isNe [101, 108, 115, 101] = false := by decide

theorem draftsR_1 (dn kn : Nat) (hdn : dn ≤ 7) (hkn : kn < 4294967296) : (wordsL (textL ⟨1, (dn : Nat), 0, 0, 0, 0, (kn : Nat), 0⟩)).tail.all okW = true ∧ draftR (wordsL (textL ⟨1, (dn : Nat), 0, 0, 0, 0, (kn : Nat), 0⟩)) = ⟨1, (dn : Nat), 0, 0, 0, 0, (kn : Nat), 0⟩ := by
  obtain ⟨adn, bdn, cdn, ddn⟩ := w_rgw dn hdn
  obtain ⟨akn, bkn, ckn, dkn⟩ := w_dec kn hkn
  rw [words_1]
  have e : opTo (nmL 1) 23 = 1 := by decide
  refine ⟨by simp [adn, akn], ?_⟩
  simp [draftR, e, regsOf, numsOf, bdn, cdn, bkn, ckn, padTo, finI, nth]
  omega
theorem draftsR_2 (dn sn : Nat) (hdn : dn ≤ 7) (hsn : sn ≤ 7) : (wordsL (textL ⟨2, (dn : Nat), (sn : Nat), 0, 0, 0, 0, 0⟩)).tail.all okW = true ∧ draftR (wordsL (textL ⟨2, (dn : Nat), (sn : Nat), 0, 0, 0, 0, 0⟩)) = ⟨2, (dn : Nat), (sn : Nat), 0, 0, 0, 0, 0⟩ := by
  obtain ⟨adn, bdn, cdn, ddn⟩ := w_rgw dn hdn
  obtain ⟨asn, bsn, csn, dsn⟩ := w_rgw sn hsn
  rw [words_2]
  have e : opTo (nmL 2) 23 = 2 := by decide
  refine ⟨by simp [adn, asn], ?_⟩
  simp [draftR, e, regsOf, kOf, bdn, ddn, bsn, dsn, padTo, finI, nth]
theorem draftsR_3 (dn sn kn : Nat) (hdn : dn ≤ 7) (hsn : sn ≤ 7) (hkn : kn < 4294967296) : (wordsL (textL ⟨3, (dn : Nat), (sn : Nat), 0, 0, 0, (kn : Nat), 0⟩)).tail.all okW = true ∧ draftR (wordsL (textL ⟨3, (dn : Nat), (sn : Nat), 0, 0, 0, (kn : Nat), 0⟩)) = ⟨3, (dn : Nat), (sn : Nat), 0, 0, 0, (kn : Nat), 0⟩ := by
  obtain ⟨adn, bdn, cdn, ddn⟩ := w_rgw dn hdn
  obtain ⟨asn, bsn, csn, dsn⟩ := w_rgw sn hsn
  obtain ⟨akn, bkn, ckn, dkn⟩ := w_dec kn hkn
  rw [words_3]
  have e : opTo (nmL 3) 23 = 3 := by decide
  refine ⟨by simp [adn, asn, akn], ?_⟩
  simp [draftR, e, regsOf, numsOf, bdn, cdn, bsn, csn, bkn, ckn, padTo, finI, nth]
  omega
theorem draftsR_4 (dn sn kn : Nat) (hdn : dn ≤ 7) (hsn : sn ≤ 7) (hkn : kn < 4294967296) : (wordsL (textL ⟨4, (dn : Nat), (sn : Nat), 0, 0, 0, (kn : Nat), 0⟩)).tail.all okW = true ∧ draftR (wordsL (textL ⟨4, (dn : Nat), (sn : Nat), 0, 0, 0, (kn : Nat), 0⟩)) = ⟨4, (dn : Nat), (sn : Nat), 0, 0, 0, (kn : Nat), 0⟩ := by
  obtain ⟨adn, bdn, cdn, ddn⟩ := w_rgw dn hdn
  obtain ⟨asn, bsn, csn, dsn⟩ := w_rgw sn hsn
  obtain ⟨akn, bkn, ckn, dkn⟩ := w_dec kn hkn
  rw [words_4]
  have e : opTo (nmL 4) 23 = 4 := by decide
  refine ⟨by simp [adn, asn, akn], ?_⟩
  simp [draftR, e, regsOf, numsOf, bdn, cdn, bsn, csn, bkn, ckn, padTo, finI, nth]
  omega
theorem draftsR_5 (dn sn kn : Nat) (hdn : dn ≤ 7) (hsn : sn ≤ 7) (hkn : kn < 4294967296) : (wordsL (textL ⟨5, (dn : Nat), (sn : Nat), 0, 0, 0, (kn : Nat), 0⟩)).tail.all okW = true ∧ draftR (wordsL (textL ⟨5, (dn : Nat), (sn : Nat), 0, 0, 0, (kn : Nat), 0⟩)) = ⟨5, (dn : Nat), (sn : Nat), 0, 0, 0, (kn : Nat), 0⟩ := by
  obtain ⟨adn, bdn, cdn, ddn⟩ := w_rgw dn hdn
  obtain ⟨asn, bsn, csn, dsn⟩ := w_rgw sn hsn
  obtain ⟨akn, bkn, ckn, dkn⟩ := w_dec kn hkn
  rw [words_5]
  have e : opTo (nmL 5) 23 = 5 := by decide
  refine ⟨by simp [adn, asn, akn], ?_⟩
  simp [draftR, e, regsOf, numsOf, bdn, cdn, bsn, csn, bkn, ckn, padTo, finI, nth]
  omega
theorem draftsR_6 (dn sn kn : Nat) (hdn : dn ≤ 7) (hsn : sn ≤ 7) (hkn : kn < 4294967296) : (wordsL (textL ⟨6, (dn : Nat), (sn : Nat), 0, 0, 0, (kn : Nat), 0⟩)).tail.all okW = true ∧ draftR (wordsL (textL ⟨6, (dn : Nat), (sn : Nat), 0, 0, 0, (kn : Nat), 0⟩)) = ⟨6, (dn : Nat), (sn : Nat), 0, 0, 0, (kn : Nat), 0⟩ := by
  obtain ⟨adn, bdn, cdn, ddn⟩ := w_rgw dn hdn
  obtain ⟨asn, bsn, csn, dsn⟩ := w_rgw sn hsn
  obtain ⟨akn, bkn, ckn, dkn⟩ := w_dec kn hkn
  rw [words_6]
  have e : opTo (nmL 6) 23 = 6 := by decide
  refine ⟨by simp [adn, asn, akn], ?_⟩
  simp [draftR, e, regsOf, numsOf, bdn, cdn, bsn, csn, bkn, ckn, padTo, finI, nth]
  omega
theorem draftsR_7 (dn sn tn : Nat) (hdn : dn ≤ 7) (hsn : sn ≤ 7) (htn : tn ≤ 7) : (wordsL (textL ⟨7, (dn : Nat), (sn : Nat), (tn : Nat), 0, 0, 0, 0⟩)).tail.all okW = true ∧ draftR (wordsL (textL ⟨7, (dn : Nat), (sn : Nat), (tn : Nat), 0, 0, 0, 0⟩)) = ⟨7, (dn : Nat), (sn : Nat), (tn : Nat), 0, 0, 0, 0⟩ := by
  obtain ⟨adn, bdn, cdn, ddn⟩ := w_rgw dn hdn
  obtain ⟨asn, bsn, csn, dsn⟩ := w_rgw sn hsn
  obtain ⟨atn, btn, ctn, dtn⟩ := w_rgw tn htn
  rw [words_7]
  have e : opTo (nmL 7) 23 = 7 := by decide
  refine ⟨by simp [adn, asn, atn], ?_⟩
  simp [draftR, e, regsOf, kOf, bdn, ddn, bsn, dsn, btn, dtn, padTo, finI, nth]
theorem draftsR_8 (sn tn pn : Nat) (hsn : sn ≤ 7) (htn : tn ≤ 7) (hpn : pn < 4294967296) : (wordsL (textL ⟨8, 0, (sn : Nat), (tn : Nat), 0, 0, 0, (pn : Nat)⟩)).tail.all okW = true ∧ draftR (wordsL (textL ⟨8, 0, (sn : Nat), (tn : Nat), 0, 0, 0, (pn : Nat)⟩)) = ⟨8, 0, (sn : Nat), (tn : Nat), 0, 0, 0, (pn : Nat)⟩ := by
  obtain ⟨asn, bsn, csn, dsn⟩ := w_rgw sn hsn
  obtain ⟨atn, btn, ctn, dtn⟩ := w_rgw tn htn
  obtain ⟨apn, bpn, cpn, dpn⟩ := w_dec pn hpn
  rw [words_8]
  have e : opTo (nmL 8) 23 = 8 := by decide
  refine ⟨by simp [asn, atn, apn], ?_⟩
  simp [draftR, e, regsOf, numsOf, kOf, bsn, csn, dsn, btn, ctn, dtn, bpn, cpn, dpn, padTo, finI, nth]
theorem draftsR_9 (sn tn pn : Nat) (hsn : sn ≤ 7) (htn : tn ≤ 7) (hpn : pn < 4294967296) : (wordsL (textL ⟨9, 0, (sn : Nat), (tn : Nat), 0, 0, 0, (pn : Nat)⟩)).tail.all okW = true ∧ draftR (wordsL (textL ⟨9, 0, (sn : Nat), (tn : Nat), 0, 0, 0, (pn : Nat)⟩)) = ⟨9, 0, (sn : Nat), (tn : Nat), 0, 0, 0, (pn : Nat)⟩ := by
  obtain ⟨asn, bsn, csn, dsn⟩ := w_rgw sn hsn
  obtain ⟨atn, btn, ctn, dtn⟩ := w_rgw tn htn
  obtain ⟨apn, bpn, cpn, dpn⟩ := w_dec pn hpn
  rw [words_9]
  have e : opTo (nmL 9) 23 = 9 := by decide
  refine ⟨by simp [asn, atn, apn], ?_⟩
  simp [draftR, e, regsOf, numsOf, kOf, bsn, csn, dsn, btn, ctn, dtn, bpn, cpn, dpn, padTo, finI, nth]
theorem draftsR_10 (pn : Nat) (hpn : pn < 4294967296) : (wordsL (textL ⟨10, 0, 0, 0, 0, 0, 0, (pn : Nat)⟩)).tail.all okW = true ∧ draftR (wordsL (textL ⟨10, 0, 0, 0, 0, 0, 0, (pn : Nat)⟩)) = ⟨10, 0, 0, 0, 0, 0, 0, (pn : Nat)⟩ := by
  obtain ⟨apn, bpn, cpn, dpn⟩ := w_dec pn hpn
  rw [words_10]
  have e : opTo (nmL 10) 23 = 10 := by decide
  refine ⟨by simp [apn], ?_⟩
  simp [draftR, e, regsOf, numsOf, kOf, bpn, cpn, dpn, padTo, finI, nth]
theorem draftsR_11 (dn : Nat) (hdn : dn ≤ 7) : (wordsL (textL ⟨11, (dn : Nat), 0, 0, 0, 0, 0, 0⟩)).tail.all okW = true ∧ draftR (wordsL (textL ⟨11, (dn : Nat), 0, 0, 0, 0, 0, 0⟩)) = ⟨11, (dn : Nat), 0, 0, 0, 0, 0, 0⟩ := by
  obtain ⟨adn, bdn, cdn, ddn⟩ := w_rgw dn hdn
  rw [words_11]
  have e : opTo (nmL 11) 23 = 11 := by decide
  refine ⟨by simp [adn], ?_⟩
  simp [draftR, e, regsOf, kOf, bdn, ddn, padTo, finI, nth]
theorem draftsR_22 (dn : Nat) (hdn : dn ≤ 7) : (wordsL (textL ⟨22, (dn : Nat), 0, 0, 0, 0, 0, 0⟩)).tail.all okW = true ∧ draftR (wordsL (textL ⟨22, (dn : Nat), 0, 0, 0, 0, 0, 0⟩)) = ⟨22, (dn : Nat), 0, 0, 0, 0, 0, 0⟩ := by
  obtain ⟨adn, bdn, cdn, ddn⟩ := w_rgw dn hdn
  rw [words_22]
  have e : opTo (nmL 22) 23 = 22 := by decide
  refine ⟨by simp [adn], ?_⟩
  simp [draftR, e, regsOf, kOf, bdn, ddn, padTo, finI, nth]
theorem draftsR_12 (kn : Nat) (hkn : kn < 4294967296) : (wordsL (textL ⟨12, 0, 0, 0, 0, 0, (kn : Nat), 0⟩)).tail.all okW = true ∧ draftR (wordsL (textL ⟨12, 0, 0, 0, 0, 0, (kn : Nat), 0⟩)) = ⟨12, 0, 0, 0, 0, 0, (kn : Nat), 0⟩ := by
  obtain ⟨akn, bkn, ckn, dkn⟩ := w_dec kn hkn
  rw [words_12]
  have e : opTo (nmL 12) 23 = 12 := by decide
  refine ⟨by simp [akn], ?_⟩
  simp [draftR, e, numsOf, ckn, padTo, finI, nth]
  omega
theorem draftsR_13 (kn : Nat) (hkn : kn < 4294967296) : (wordsL (textL ⟨13, 0, 0, 0, 0, 0, (kn : Nat), 0⟩)).tail.all okW = true ∧ draftR (wordsL (textL ⟨13, 0, 0, 0, 0, 0, (kn : Nat), 0⟩)) = ⟨13, 0, 0, 0, 0, 0, (kn : Nat), 0⟩ := by
  obtain ⟨akn, bkn, ckn, dkn⟩ := w_dec kn hkn
  rw [words_13]
  have e : opTo (nmL 13) 23 = 13 := by decide
  refine ⟨by simp [akn], ?_⟩
  simp [draftR, e, numsOf, ckn, padTo, finI, nth]
  omega
theorem draftsR_16 (dn sn an : Nat) (hdn : dn ≤ 7) (hsn : sn ≤ 7) (han : an < 4294967296) : (wordsL (textL ⟨16, (dn : Nat), (sn : Nat), 0, 0, (an : Nat), 0, 0⟩)).tail.all okW = true ∧ draftR (wordsL (textL ⟨16, (dn : Nat), (sn : Nat), 0, 0, (an : Nat), 0, 0⟩)) = ⟨16, (dn : Nat), (sn : Nat), 0, 0, (an : Nat), 0, 0⟩ := by
  obtain ⟨adn, bdn, cdn, ddn⟩ := w_rgw dn hdn
  obtain ⟨asn, bsn, csn, dsn⟩ := w_rgw sn hsn
  obtain ⟨aan, ban, can, dan⟩ := w_dec an han
  rw [words_16]
  have e : opTo (nmL 16) 23 = 16 := by decide
  refine ⟨by simp [adn, asn, aan], ?_⟩
  simp [draftR, e, regsOf, numsOf, kOf, bdn, cdn, ddn, bsn, csn, dsn, ban, can, dan, padTo, finI, nth]
theorem draftsR_17 (sn tn an : Nat) (hsn : sn ≤ 7) (htn : tn ≤ 7) (han : an < 4294967296) : (wordsL (textL ⟨17, 0, (sn : Nat), (tn : Nat), 0, (an : Nat), 0, 0⟩)).tail.all okW = true ∧ draftR (wordsL (textL ⟨17, 0, (sn : Nat), (tn : Nat), 0, (an : Nat), 0, 0⟩)) = ⟨17, 0, (sn : Nat), (tn : Nat), 0, (an : Nat), 0, 0⟩ := by
  obtain ⟨asn, bsn, csn, dsn⟩ := w_rgw sn hsn
  obtain ⟨atn, btn, ctn, dtn⟩ := w_rgw tn htn
  obtain ⟨aan, ban, can, dan⟩ := w_dec an han
  rw [words_17]
  have e : opTo (nmL 17) 23 = 17 := by decide
  refine ⟨by simp [asn, atn, aan], ?_⟩
  simp [draftR, e, regsOf, numsOf, kOf, bsn, csn, dsn, btn, ctn, dtn, ban, can, dan, padTo, finI, nth]
theorem draftsR_18 (dn sn tn an : Nat) (hdn : dn ≤ 7) (hsn : sn ≤ 7) (htn : tn ≤ 7) (han : an < 4294967296) : (wordsL (textL ⟨18, (dn : Nat), (sn : Nat), (tn : Nat), 0, (an : Nat), 0, 0⟩)).tail.all okW = true ∧ draftR (wordsL (textL ⟨18, (dn : Nat), (sn : Nat), (tn : Nat), 0, (an : Nat), 0, 0⟩)) = ⟨18, (dn : Nat), (sn : Nat), (tn : Nat), 0, (an : Nat), 0, 0⟩ := by
  obtain ⟨adn, bdn, cdn, ddn⟩ := w_rgw dn hdn
  obtain ⟨asn, bsn, csn, dsn⟩ := w_rgw sn hsn
  obtain ⟨atn, btn, ctn, dtn⟩ := w_rgw tn htn
  obtain ⟨aan, ban, can, dan⟩ := w_dec an han
  rw [words_18]
  have e : opTo (nmL 18) 23 = 18 := by decide
  refine ⟨by simp [adn, asn, atn, aan], ?_⟩
  simp [draftR, e, regsOf, numsOf, kOf, bdn, cdn, ddn, bsn, csn, dsn, btn, ctn, dtn, ban, can, dan, padTo, finI, nth]
theorem draftsR_19 (dn sn tn un an : Nat) (hdn : dn ≤ 7) (hsn : sn ≤ 7) (htn : tn ≤ 7) (hun : un ≤ 7) (han : an < 4294967296) : (wordsL (textL ⟨19, (dn : Nat), (sn : Nat), (tn : Nat), (un : Nat), (an : Nat), 0, 0⟩)).tail.all okW = true ∧ draftR (wordsL (textL ⟨19, (dn : Nat), (sn : Nat), (tn : Nat), (un : Nat), (an : Nat), 0, 0⟩)) = ⟨19, (dn : Nat), (sn : Nat), (tn : Nat), (un : Nat), (an : Nat), 0, 0⟩ := by
  obtain ⟨adn, bdn, cdn, ddn⟩ := w_rgw dn hdn
  obtain ⟨asn, bsn, csn, dsn⟩ := w_rgw sn hsn
  obtain ⟨atn, btn, ctn, dtn⟩ := w_rgw tn htn
  obtain ⟨aun, bun, cun, dun⟩ := w_rgw un hun
  obtain ⟨aan, ban, can, dan⟩ := w_dec an han
  rw [words_19]
  have e : opTo (nmL 19) 23 = 19 := by decide
  refine ⟨by simp [adn, asn, atn, aun, aan], ?_⟩
  simp [draftR, e, regsOf, numsOf, kOf, bdn, cdn, ddn, bsn, csn, dsn, btn, ctn, dtn, bun, cun, dun, ban, can, dan, padTo, finI, nth]
theorem draftsR_20 (dn sn an kn : Nat) (hdn : dn ≤ 7) (hsn : sn ≤ 7) (han : an < 4294967296) (hkn : kn < 4294967296) : (wordsL (textL ⟨20, (dn : Nat), (sn : Nat), 0, 0, (an : Nat), (kn : Nat), 0⟩)).tail.all okW = true ∧ draftR (wordsL (textL ⟨20, (dn : Nat), (sn : Nat), 0, 0, (an : Nat), (kn : Nat), 0⟩)) = ⟨20, (dn : Nat), (sn : Nat), 0, 0, (an : Nat), (kn : Nat), 0⟩ := by
  obtain ⟨adn, bdn, cdn, ddn⟩ := w_rgw dn hdn
  obtain ⟨asn, bsn, csn, dsn⟩ := w_rgw sn hsn
  obtain ⟨aan, ban, can, dan⟩ := w_dec an han
  obtain ⟨akn, bkn, ckn, dkn⟩ := w_dec kn hkn
  rw [words_20]
  have e : opTo (nmL 20) 23 = 20 := by decide
  refine ⟨by simp [adn, asn, aan, akn], ?_⟩
  simp [draftR, e, regsOf, numsOf, bdn, cdn, bsn, csn, ban, can, bkn, ckn, padTo, finI, nth]
  omega
theorem draftsR_23 (sn : Nat) (hsn : sn ≤ 7) : (wordsL (textL ⟨23, 0, (sn : Nat), 0, 0, 0, 0, 0⟩)).tail.all okW = true ∧ draftR (wordsL (textL ⟨23, 0, (sn : Nat), 0, 0, 0, 0, 0⟩)) = ⟨23, 0, (sn : Nat), 0, 0, 0, 0, 0⟩ := by
  obtain ⟨asn, bsn, csn, dsn⟩ := w_rgw sn hsn
  rw [words_23]
  have e : opTo (nmL 23) 23 = 23 := by decide
  refine ⟨by simp [asn], ?_⟩
  simp [draftR, e, regsOf, kOf, bsn, dsn, padTo, finI, nth]
theorem draftsR_21_0p (dn sn tn an pn : Nat) (hdn : dn ≤ 7) (hsn : sn ≤ 7) (htn : tn ≤ 7) (han : an < 4294967296) (hpn : pn < 4294967296) : (wordsL (textL ⟨21, (dn : Nat), (sn : Nat), (tn : Nat), 0, (an : Nat), 0, (pn : Nat)⟩)).tail.all okW = true ∧ draftR (wordsL (textL ⟨21, (dn : Nat), (sn : Nat), (tn : Nat), 0, (an : Nat), 0, (pn : Nat)⟩)) = ⟨21, (dn : Nat), (sn : Nat), (tn : Nat), 0, (an : Nat), 0, (pn : Nat)⟩ := by
  obtain ⟨adn, bdn, cdn, ddn⟩ := w_rgw dn hdn
  obtain ⟨asn, bsn, csn, dsn⟩ := w_rgw sn hsn
  obtain ⟨atn, btn, ctn, dtn⟩ := w_rgw tn htn
  obtain ⟨aan, ban, can, dan⟩ := w_dec an han
  obtain ⟨apn, bpn, cpn, dpn⟩ := w_dec pn hpn
  obtain ⟨ae, be, ce, de⟩ := w_eq
  obtain ⟨al, bl, cl, dl⟩ := w_else
  rw [words_21_0p dn sn tn an pn]
  have e : opTo (nmL 21) 23 = 21 := by decide
  refine ⟨by simp [adn, asn, atn, aan, ae, apn, al], ?_⟩
  simp [draftR, e, regsOf, numsOf, kOf, bdn, cdn, ddn, bsn, csn, dsn, btn, ctn, dtn, ban, can, dan, be, ce, de, bpn, cpn, dpn, bl, cl, dl, padTo, finI, nth]
theorem draftsR_21_0m (dn sn tn an pn : Nat) (hdn : dn ≤ 7) (hsn : sn ≤ 7) (htn : tn ≤ 7) (han : an < 4294967296) (hpn : pn < 4294967296) : (wordsL (textL ⟨21, (dn : Nat), (sn : Nat), (tn : Nat), 0, (an : Nat), 0, -1⟩)).tail.all okW = true ∧ draftR (wordsL (textL ⟨21, (dn : Nat), (sn : Nat), (tn : Nat), 0, (an : Nat), 0, -1⟩)) = ⟨21, (dn : Nat), (sn : Nat), (tn : Nat), 0, (an : Nat), 0, -1⟩ := by
  obtain ⟨adn, bdn, cdn, ddn⟩ := w_rgw dn hdn
  obtain ⟨asn, bsn, csn, dsn⟩ := w_rgw sn hsn
  obtain ⟨atn, btn, ctn, dtn⟩ := w_rgw tn htn
  obtain ⟨aan, ban, can, dan⟩ := w_dec an han
  obtain ⟨apn, bpn, cpn, dpn⟩ := w_dec pn hpn
  obtain ⟨ae, be, ce, de⟩ := w_eq
  obtain ⟨al, bl, cl, dl⟩ := w_else
  rw [words_21_0m dn sn tn an pn]
  have e : opTo (nmL 21) 23 = 21 := by decide
  refine ⟨by simp [adn, asn, atn, aan, ae], ?_⟩
  simp [draftR, e, regsOf, numsOf, kOf, bdn, cdn, ddn, bsn, csn, dsn, btn, ctn, dtn, ban, can, dan, be, ce, de, padTo, finI, nth]
theorem draftsR_21_1p (dn sn tn an pn : Nat) (hdn : dn ≤ 7) (hsn : sn ≤ 7) (htn : tn ≤ 7) (han : an < 4294967296) (hpn : pn < 4294967296) : (wordsL (textL ⟨21, (dn : Nat), (sn : Nat), (tn : Nat), 0, (an : Nat), 1, (pn : Nat)⟩)).tail.all okW = true ∧ draftR (wordsL (textL ⟨21, (dn : Nat), (sn : Nat), (tn : Nat), 0, (an : Nat), 1, (pn : Nat)⟩)) = ⟨21, (dn : Nat), (sn : Nat), (tn : Nat), 0, (an : Nat), 1, (pn : Nat)⟩ := by
  obtain ⟨adn, bdn, cdn, ddn⟩ := w_rgw dn hdn
  obtain ⟨asn, bsn, csn, dsn⟩ := w_rgw sn hsn
  obtain ⟨atn, btn, ctn, dtn⟩ := w_rgw tn htn
  obtain ⟨aan, ban, can, dan⟩ := w_dec an han
  obtain ⟨apn, bpn, cpn, dpn⟩ := w_dec pn hpn
  obtain ⟨ae, be, ce, de⟩ := w_ne
  obtain ⟨al, bl, cl, dl⟩ := w_else
  rw [words_21_1p dn sn tn an pn]
  have e : opTo (nmL 21) 23 = 21 := by decide
  refine ⟨by simp [adn, asn, atn, aan, ae, apn, al], ?_⟩
  simp [draftR, e, regsOf, numsOf, kOf, bdn, cdn, ddn, bsn, csn, dsn, btn, ctn, dtn, ban, can, dan, be, ce, de, bpn, cpn, dpn, bl, cl, dl, padTo, finI, nth]
theorem draftsR_21_1m (dn sn tn an pn : Nat) (hdn : dn ≤ 7) (hsn : sn ≤ 7) (htn : tn ≤ 7) (han : an < 4294967296) (hpn : pn < 4294967296) : (wordsL (textL ⟨21, (dn : Nat), (sn : Nat), (tn : Nat), 0, (an : Nat), 1, -1⟩)).tail.all okW = true ∧ draftR (wordsL (textL ⟨21, (dn : Nat), (sn : Nat), (tn : Nat), 0, (an : Nat), 1, -1⟩)) = ⟨21, (dn : Nat), (sn : Nat), (tn : Nat), 0, (an : Nat), 1, -1⟩ := by
  obtain ⟨adn, bdn, cdn, ddn⟩ := w_rgw dn hdn
  obtain ⟨asn, bsn, csn, dsn⟩ := w_rgw sn hsn
  obtain ⟨atn, btn, ctn, dtn⟩ := w_rgw tn htn
  obtain ⟨aan, ban, can, dan⟩ := w_dec an han
  obtain ⟨apn, bpn, cpn, dpn⟩ := w_dec pn hpn
  obtain ⟨ae, be, ce, de⟩ := w_ne
  obtain ⟨al, bl, cl, dl⟩ := w_else
  rw [words_21_1m dn sn tn an pn]
  have e : opTo (nmL 21) 23 = 21 := by decide
  refine ⟨by simp [adn, asn, atn, aan, ae], ?_⟩
  simp [draftR, e, regsOf, numsOf, kOf, bdn, cdn, ddn, bsn, csn, dsn, btn, ctn, dtn, ban, can, dan, be, ce, de, padTo, finI, nth]

/-- What the document drafts of a right instruction's text is the instruction. -/
theorem draftR_text (i : Ins) (h : rightB i 1073741824 = true) (k0 : 0 ≤ i.k) (k1 : i.k < 4294967296) : (wordsL (textL i)).tail.all okW = true ∧ draftR (wordsL (textL i)) = i := by
  obtain ⟨hd, hs, ht, hu, ha⟩ := right_regs i _ h
  obtain ⟨op, d, s, t, u, a, k, pl⟩ := i
  simp only at hd hs ht hu ha k0 k1
  rcases op_cases op with rfl | rfl | rfl | rfl | rfl | rfl | rfl | rfl | rfl | rfl | rfl | rfl | rfl | rfl | rfl | rfl | rfl | rfl | rfl | rfl | rfl | hn
  · skip
    have hr := right_1 d s t u a k pl 1073741824 hd hs ht hu ha k0 k1
    rw [h] at hr
    simp [eqI] at hr
    obtain ⟨dn, rfl⟩ : ∃ n : Nat, d = n := ⟨d.toNat, by omega⟩
    obtain ⟨sn, rfl⟩ : ∃ n : Nat, s = n := ⟨s.toNat, by omega⟩
    obtain ⟨tn, rfl⟩ : ∃ n : Nat, t = n := ⟨t.toNat, by omega⟩
    obtain ⟨un, rfl⟩ : ∃ n : Nat, u = n := ⟨u.toNat, by omega⟩
    obtain ⟨an, rfl⟩ : ∃ n : Nat, a = n := ⟨a.toNat, by omega⟩
    obtain ⟨kn, rfl⟩ : ∃ n : Nat, k = n := ⟨k.toNat, by omega⟩
    obtain rfl : sn = 0 := by omega
    obtain rfl : tn = 0 := by omega
    obtain rfl : un = 0 := by omega
    obtain rfl : an = 0 := by omega
    obtain rfl : pl = 0 := by omega
    exact draftsR_1 dn kn (by omega) (by omega)
  · skip
    have hr := right_2 d s t u a k pl 1073741824 hd hs ht hu ha k0 k1
    rw [h] at hr
    simp [eqI] at hr
    obtain ⟨dn, rfl⟩ : ∃ n : Nat, d = n := ⟨d.toNat, by omega⟩
    obtain ⟨sn, rfl⟩ : ∃ n : Nat, s = n := ⟨s.toNat, by omega⟩
    obtain ⟨tn, rfl⟩ : ∃ n : Nat, t = n := ⟨t.toNat, by omega⟩
    obtain ⟨un, rfl⟩ : ∃ n : Nat, u = n := ⟨u.toNat, by omega⟩
    obtain ⟨an, rfl⟩ : ∃ n : Nat, a = n := ⟨a.toNat, by omega⟩
    obtain ⟨kn, rfl⟩ : ∃ n : Nat, k = n := ⟨k.toNat, by omega⟩
    obtain rfl : tn = 0 := by omega
    obtain rfl : un = 0 := by omega
    obtain rfl : an = 0 := by omega
    obtain rfl : kn = 0 := by omega
    obtain rfl : pl = 0 := by omega
    exact draftsR_2 dn sn (by omega) (by omega)
  · skip
    have hr := right_3 d s t u a k pl 1073741824 hd hs ht hu ha k0 k1
    rw [h] at hr
    simp [eqI] at hr
    obtain ⟨dn, rfl⟩ : ∃ n : Nat, d = n := ⟨d.toNat, by omega⟩
    obtain ⟨sn, rfl⟩ : ∃ n : Nat, s = n := ⟨s.toNat, by omega⟩
    obtain ⟨tn, rfl⟩ : ∃ n : Nat, t = n := ⟨t.toNat, by omega⟩
    obtain ⟨un, rfl⟩ : ∃ n : Nat, u = n := ⟨u.toNat, by omega⟩
    obtain ⟨an, rfl⟩ : ∃ n : Nat, a = n := ⟨a.toNat, by omega⟩
    obtain ⟨kn, rfl⟩ : ∃ n : Nat, k = n := ⟨k.toNat, by omega⟩
    obtain rfl : tn = 0 := by omega
    obtain rfl : un = 0 := by omega
    obtain rfl : an = 0 := by omega
    obtain rfl : pl = 0 := by omega
    exact draftsR_3 dn sn kn (by omega) (by omega) (by omega)
  · skip
    have hr := right_4 d s t u a k pl 1073741824 hd hs ht hu ha k0 k1
    rw [h] at hr
    simp [eqI] at hr
    obtain ⟨dn, rfl⟩ : ∃ n : Nat, d = n := ⟨d.toNat, by omega⟩
    obtain ⟨sn, rfl⟩ : ∃ n : Nat, s = n := ⟨s.toNat, by omega⟩
    obtain ⟨tn, rfl⟩ : ∃ n : Nat, t = n := ⟨t.toNat, by omega⟩
    obtain ⟨un, rfl⟩ : ∃ n : Nat, u = n := ⟨u.toNat, by omega⟩
    obtain ⟨an, rfl⟩ : ∃ n : Nat, a = n := ⟨a.toNat, by omega⟩
    obtain ⟨kn, rfl⟩ : ∃ n : Nat, k = n := ⟨k.toNat, by omega⟩
    obtain rfl : tn = 0 := by omega
    obtain rfl : un = 0 := by omega
    obtain rfl : an = 0 := by omega
    obtain rfl : pl = 0 := by omega
    exact draftsR_4 dn sn kn (by omega) (by omega) (by omega)
  · skip
    have hr := right_5 d s t u a k pl 1073741824 hd hs ht hu ha k0 k1
    rw [h] at hr
    simp [eqI] at hr
    obtain ⟨dn, rfl⟩ : ∃ n : Nat, d = n := ⟨d.toNat, by omega⟩
    obtain ⟨sn, rfl⟩ : ∃ n : Nat, s = n := ⟨s.toNat, by omega⟩
    obtain ⟨tn, rfl⟩ : ∃ n : Nat, t = n := ⟨t.toNat, by omega⟩
    obtain ⟨un, rfl⟩ : ∃ n : Nat, u = n := ⟨u.toNat, by omega⟩
    obtain ⟨an, rfl⟩ : ∃ n : Nat, a = n := ⟨a.toNat, by omega⟩
    obtain ⟨kn, rfl⟩ : ∃ n : Nat, k = n := ⟨k.toNat, by omega⟩
    obtain rfl : tn = 0 := by omega
    obtain rfl : un = 0 := by omega
    obtain rfl : an = 0 := by omega
    obtain rfl : pl = 0 := by omega
    exact draftsR_5 dn sn kn (by omega) (by omega) (by omega)
  · skip
    have hr := right_6 d s t u a k pl 1073741824 hd hs ht hu ha k0 k1
    rw [h] at hr
    simp [eqI] at hr
    obtain ⟨dn, rfl⟩ : ∃ n : Nat, d = n := ⟨d.toNat, by omega⟩
    obtain ⟨sn, rfl⟩ : ∃ n : Nat, s = n := ⟨s.toNat, by omega⟩
    obtain ⟨tn, rfl⟩ : ∃ n : Nat, t = n := ⟨t.toNat, by omega⟩
    obtain ⟨un, rfl⟩ : ∃ n : Nat, u = n := ⟨u.toNat, by omega⟩
    obtain ⟨an, rfl⟩ : ∃ n : Nat, a = n := ⟨a.toNat, by omega⟩
    obtain ⟨kn, rfl⟩ : ∃ n : Nat, k = n := ⟨k.toNat, by omega⟩
    obtain rfl : tn = 0 := by omega
    obtain rfl : un = 0 := by omega
    obtain rfl : an = 0 := by omega
    obtain rfl : pl = 0 := by omega
    exact draftsR_6 dn sn kn (by omega) (by omega) (by omega)
  · skip
    have hr := right_7 d s t u a k pl 1073741824 hd hs ht hu ha k0 k1
    rw [h] at hr
    simp [eqI] at hr
    obtain ⟨dn, rfl⟩ : ∃ n : Nat, d = n := ⟨d.toNat, by omega⟩
    obtain ⟨sn, rfl⟩ : ∃ n : Nat, s = n := ⟨s.toNat, by omega⟩
    obtain ⟨tn, rfl⟩ : ∃ n : Nat, t = n := ⟨t.toNat, by omega⟩
    obtain ⟨un, rfl⟩ : ∃ n : Nat, u = n := ⟨u.toNat, by omega⟩
    obtain ⟨an, rfl⟩ : ∃ n : Nat, a = n := ⟨a.toNat, by omega⟩
    obtain ⟨kn, rfl⟩ : ∃ n : Nat, k = n := ⟨k.toNat, by omega⟩
    obtain rfl : un = 0 := by omega
    obtain rfl : an = 0 := by omega
    obtain rfl : kn = 0 := by omega
    obtain rfl : pl = 0 := by omega
    exact draftsR_7 dn sn tn (by omega) (by omega) (by omega)
  · skip
    have hr := right_8 d s t u a k pl 1073741824 hd hs ht hu ha k0 k1
    rw [h] at hr
    simp [eqI] at hr
    obtain ⟨dn, rfl⟩ : ∃ n : Nat, d = n := ⟨d.toNat, by omega⟩
    obtain ⟨sn, rfl⟩ : ∃ n : Nat, s = n := ⟨s.toNat, by omega⟩
    obtain ⟨tn, rfl⟩ : ∃ n : Nat, t = n := ⟨t.toNat, by omega⟩
    obtain ⟨un, rfl⟩ : ∃ n : Nat, u = n := ⟨u.toNat, by omega⟩
    obtain ⟨an, rfl⟩ : ∃ n : Nat, a = n := ⟨a.toNat, by omega⟩
    obtain ⟨kn, rfl⟩ : ∃ n : Nat, k = n := ⟨k.toNat, by omega⟩
    obtain rfl : dn = 0 := by omega
    obtain rfl : un = 0 := by omega
    obtain rfl : an = 0 := by omega
    obtain rfl : kn = 0 := by omega
    obtain ⟨pn, rfl⟩ : ∃ n : Nat, pl = n := ⟨pl.toNat, by omega⟩
    exact draftsR_8 sn tn pn (by omega) (by omega) (by omega)
  · skip
    have hr := right_9 d s t u a k pl 1073741824 hd hs ht hu ha k0 k1
    rw [h] at hr
    simp [eqI] at hr
    obtain ⟨dn, rfl⟩ : ∃ n : Nat, d = n := ⟨d.toNat, by omega⟩
    obtain ⟨sn, rfl⟩ : ∃ n : Nat, s = n := ⟨s.toNat, by omega⟩
    obtain ⟨tn, rfl⟩ : ∃ n : Nat, t = n := ⟨t.toNat, by omega⟩
    obtain ⟨un, rfl⟩ : ∃ n : Nat, u = n := ⟨u.toNat, by omega⟩
    obtain ⟨an, rfl⟩ : ∃ n : Nat, a = n := ⟨a.toNat, by omega⟩
    obtain ⟨kn, rfl⟩ : ∃ n : Nat, k = n := ⟨k.toNat, by omega⟩
    obtain rfl : dn = 0 := by omega
    obtain rfl : un = 0 := by omega
    obtain rfl : an = 0 := by omega
    obtain rfl : kn = 0 := by omega
    obtain ⟨pn, rfl⟩ : ∃ n : Nat, pl = n := ⟨pl.toNat, by omega⟩
    exact draftsR_9 sn tn pn (by omega) (by omega) (by omega)
  · skip
    have hr := right_10 d s t u a k pl 1073741824 hd hs ht hu ha k0 k1
    rw [h] at hr
    simp [eqI] at hr
    obtain ⟨dn, rfl⟩ : ∃ n : Nat, d = n := ⟨d.toNat, by omega⟩
    obtain ⟨sn, rfl⟩ : ∃ n : Nat, s = n := ⟨s.toNat, by omega⟩
    obtain ⟨tn, rfl⟩ : ∃ n : Nat, t = n := ⟨t.toNat, by omega⟩
    obtain ⟨un, rfl⟩ : ∃ n : Nat, u = n := ⟨u.toNat, by omega⟩
    obtain ⟨an, rfl⟩ : ∃ n : Nat, a = n := ⟨a.toNat, by omega⟩
    obtain ⟨kn, rfl⟩ : ∃ n : Nat, k = n := ⟨k.toNat, by omega⟩
    obtain rfl : dn = 0 := by omega
    obtain rfl : sn = 0 := by omega
    obtain rfl : tn = 0 := by omega
    obtain rfl : un = 0 := by omega
    obtain rfl : an = 0 := by omega
    obtain rfl : kn = 0 := by omega
    obtain ⟨pn, rfl⟩ : ∃ n : Nat, pl = n := ⟨pl.toNat, by omega⟩
    exact draftsR_10 pn (by omega)
  · skip
    have hr := right_11 d s t u a k pl 1073741824 hd hs ht hu ha k0 k1
    rw [h] at hr
    simp [eqI] at hr
    obtain ⟨dn, rfl⟩ : ∃ n : Nat, d = n := ⟨d.toNat, by omega⟩
    obtain ⟨sn, rfl⟩ : ∃ n : Nat, s = n := ⟨s.toNat, by omega⟩
    obtain ⟨tn, rfl⟩ : ∃ n : Nat, t = n := ⟨t.toNat, by omega⟩
    obtain ⟨un, rfl⟩ : ∃ n : Nat, u = n := ⟨u.toNat, by omega⟩
    obtain ⟨an, rfl⟩ : ∃ n : Nat, a = n := ⟨a.toNat, by omega⟩
    obtain ⟨kn, rfl⟩ : ∃ n : Nat, k = n := ⟨k.toNat, by omega⟩
    obtain rfl : sn = 0 := by omega
    obtain rfl : tn = 0 := by omega
    obtain rfl : un = 0 := by omega
    obtain rfl : an = 0 := by omega
    obtain rfl : kn = 0 := by omega
    obtain rfl : pl = 0 := by omega
    exact draftsR_11 dn (by omega)
  · skip
    have hr := right_12 d s t u a k pl 1073741824 hd hs ht hu ha k0 k1
    rw [h] at hr
    simp [eqI] at hr
    obtain ⟨dn, rfl⟩ : ∃ n : Nat, d = n := ⟨d.toNat, by omega⟩
    obtain ⟨sn, rfl⟩ : ∃ n : Nat, s = n := ⟨s.toNat, by omega⟩
    obtain ⟨tn, rfl⟩ : ∃ n : Nat, t = n := ⟨t.toNat, by omega⟩
    obtain ⟨un, rfl⟩ : ∃ n : Nat, u = n := ⟨u.toNat, by omega⟩
    obtain ⟨an, rfl⟩ : ∃ n : Nat, a = n := ⟨a.toNat, by omega⟩
    obtain ⟨kn, rfl⟩ : ∃ n : Nat, k = n := ⟨k.toNat, by omega⟩
    obtain rfl : dn = 0 := by omega
    obtain rfl : sn = 0 := by omega
    obtain rfl : tn = 0 := by omega
    obtain rfl : un = 0 := by omega
    obtain rfl : an = 0 := by omega
    obtain rfl : pl = 0 := by omega
    exact draftsR_12 kn (by omega)
  · skip
    have hr := right_13 d s t u a k pl 1073741824 hd hs ht hu ha k0 k1
    rw [h] at hr
    simp [eqI] at hr
    obtain ⟨dn, rfl⟩ : ∃ n : Nat, d = n := ⟨d.toNat, by omega⟩
    obtain ⟨sn, rfl⟩ : ∃ n : Nat, s = n := ⟨s.toNat, by omega⟩
    obtain ⟨tn, rfl⟩ : ∃ n : Nat, t = n := ⟨t.toNat, by omega⟩
    obtain ⟨un, rfl⟩ : ∃ n : Nat, u = n := ⟨u.toNat, by omega⟩
    obtain ⟨an, rfl⟩ : ∃ n : Nat, a = n := ⟨a.toNat, by omega⟩
    obtain ⟨kn, rfl⟩ : ∃ n : Nat, k = n := ⟨k.toNat, by omega⟩
    obtain rfl : dn = 0 := by omega
    obtain rfl : sn = 0 := by omega
    obtain rfl : tn = 0 := by omega
    obtain rfl : un = 0 := by omega
    obtain rfl : an = 0 := by omega
    obtain rfl : pl = 0 := by omega
    exact draftsR_13 kn (by omega)
  · skip
    have hr := right_16 d s t u a k pl 1073741824 hd hs ht hu ha k0 k1
    rw [h] at hr
    simp [eqI] at hr
    obtain ⟨dn, rfl⟩ : ∃ n : Nat, d = n := ⟨d.toNat, by omega⟩
    obtain ⟨sn, rfl⟩ : ∃ n : Nat, s = n := ⟨s.toNat, by omega⟩
    obtain ⟨tn, rfl⟩ : ∃ n : Nat, t = n := ⟨t.toNat, by omega⟩
    obtain ⟨un, rfl⟩ : ∃ n : Nat, u = n := ⟨u.toNat, by omega⟩
    obtain ⟨an, rfl⟩ : ∃ n : Nat, a = n := ⟨a.toNat, by omega⟩
    obtain ⟨kn, rfl⟩ : ∃ n : Nat, k = n := ⟨k.toNat, by omega⟩
    obtain rfl : tn = 0 := by omega
    obtain rfl : un = 0 := by omega
    obtain rfl : kn = 0 := by omega
    obtain rfl : pl = 0 := by omega
    exact draftsR_16 dn sn an (by omega) (by omega) (by omega)
  · skip
    have hr := right_17 d s t u a k pl 1073741824 hd hs ht hu ha k0 k1
    rw [h] at hr
    simp [eqI] at hr
    obtain ⟨dn, rfl⟩ : ∃ n : Nat, d = n := ⟨d.toNat, by omega⟩
    obtain ⟨sn, rfl⟩ : ∃ n : Nat, s = n := ⟨s.toNat, by omega⟩
    obtain ⟨tn, rfl⟩ : ∃ n : Nat, t = n := ⟨t.toNat, by omega⟩
    obtain ⟨un, rfl⟩ : ∃ n : Nat, u = n := ⟨u.toNat, by omega⟩
    obtain ⟨an, rfl⟩ : ∃ n : Nat, a = n := ⟨a.toNat, by omega⟩
    obtain ⟨kn, rfl⟩ : ∃ n : Nat, k = n := ⟨k.toNat, by omega⟩
    obtain rfl : dn = 0 := by omega
    obtain rfl : un = 0 := by omega
    obtain rfl : kn = 0 := by omega
    obtain rfl : pl = 0 := by omega
    exact draftsR_17 sn tn an (by omega) (by omega) (by omega)
  · skip
    have hr := right_18 d s t u a k pl 1073741824 hd hs ht hu ha k0 k1
    rw [h] at hr
    simp [eqI] at hr
    obtain ⟨dn, rfl⟩ : ∃ n : Nat, d = n := ⟨d.toNat, by omega⟩
    obtain ⟨sn, rfl⟩ : ∃ n : Nat, s = n := ⟨s.toNat, by omega⟩
    obtain ⟨tn, rfl⟩ : ∃ n : Nat, t = n := ⟨t.toNat, by omega⟩
    obtain ⟨un, rfl⟩ : ∃ n : Nat, u = n := ⟨u.toNat, by omega⟩
    obtain ⟨an, rfl⟩ : ∃ n : Nat, a = n := ⟨a.toNat, by omega⟩
    obtain ⟨kn, rfl⟩ : ∃ n : Nat, k = n := ⟨k.toNat, by omega⟩
    obtain rfl : un = 0 := by omega
    obtain rfl : kn = 0 := by omega
    obtain rfl : pl = 0 := by omega
    exact draftsR_18 dn sn tn an (by omega) (by omega) (by omega) (by omega)
  · skip
    have hr := right_19 d s t u a k pl 1073741824 hd hs ht hu ha k0 k1
    rw [h] at hr
    simp [eqI] at hr
    obtain ⟨dn, rfl⟩ : ∃ n : Nat, d = n := ⟨d.toNat, by omega⟩
    obtain ⟨sn, rfl⟩ : ∃ n : Nat, s = n := ⟨s.toNat, by omega⟩
    obtain ⟨tn, rfl⟩ : ∃ n : Nat, t = n := ⟨t.toNat, by omega⟩
    obtain ⟨un, rfl⟩ : ∃ n : Nat, u = n := ⟨u.toNat, by omega⟩
    obtain ⟨an, rfl⟩ : ∃ n : Nat, a = n := ⟨a.toNat, by omega⟩
    obtain ⟨kn, rfl⟩ : ∃ n : Nat, k = n := ⟨k.toNat, by omega⟩
    obtain rfl : kn = 0 := by omega
    obtain rfl : pl = 0 := by omega
    exact draftsR_19 dn sn tn un an (by omega) (by omega) (by omega) (by omega) (by omega)
  · skip
    have hr := right_20 d s t u a k pl 1073741824 hd hs ht hu ha k0 k1
    rw [h] at hr
    simp [eqI] at hr
    obtain ⟨dn, rfl⟩ : ∃ n : Nat, d = n := ⟨d.toNat, by omega⟩
    obtain ⟨sn, rfl⟩ : ∃ n : Nat, s = n := ⟨s.toNat, by omega⟩
    obtain ⟨tn, rfl⟩ : ∃ n : Nat, t = n := ⟨t.toNat, by omega⟩
    obtain ⟨un, rfl⟩ : ∃ n : Nat, u = n := ⟨u.toNat, by omega⟩
    obtain ⟨an, rfl⟩ : ∃ n : Nat, a = n := ⟨a.toNat, by omega⟩
    obtain ⟨kn, rfl⟩ : ∃ n : Nat, k = n := ⟨k.toNat, by omega⟩
    obtain rfl : tn = 0 := by omega
    obtain rfl : un = 0 := by omega
    obtain rfl : pl = 0 := by omega
    exact draftsR_20 dn sn an kn (by omega) (by omega) (by omega) (by omega)
  · skip
    have hr := right_21 d s t u a k pl 1073741824 hd hs ht hu ha k0 k1
    rw [h] at hr
    simp [eqI] at hr
    obtain ⟨dn, rfl⟩ : ∃ n : Nat, d = n := ⟨d.toNat, by omega⟩
    obtain ⟨sn, rfl⟩ : ∃ n : Nat, s = n := ⟨s.toNat, by omega⟩
    obtain ⟨tn, rfl⟩ : ∃ n : Nat, t = n := ⟨t.toNat, by omega⟩
    obtain ⟨un, rfl⟩ : ∃ n : Nat, u = n := ⟨u.toNat, by omega⟩
    obtain ⟨an, rfl⟩ : ∃ n : Nat, a = n := ⟨a.toNat, by omega⟩
    obtain ⟨kn, rfl⟩ : ∃ n : Nat, k = n := ⟨k.toNat, by omega⟩
    obtain rfl : un = 0 := by omega
    by_cases hm : pl = -1
    · subst hm
      by_cases hk : kn = 0
      · subst hk; exact draftsR_21_0m dn sn tn an 0 (by omega) (by omega) (by omega) (by omega) (by omega)
      · obtain rfl : kn = 1 := by omega
        exact draftsR_21_1m dn sn tn an 0 (by omega) (by omega) (by omega) (by omega) (by omega)
    · obtain ⟨pn, rfl⟩ : ∃ n : Nat, pl = n := ⟨pl.toNat, by omega⟩
      by_cases hk : kn = 0
      · subst hk; exact draftsR_21_0p dn sn tn an pn (by omega) (by omega) (by omega) (by omega) (by omega)
      · obtain rfl : kn = 1 := by omega
        exact draftsR_21_1p dn sn tn an pn (by omega) (by omega) (by omega) (by omega) (by omega)
  · skip
    have hr := right_22 d s t u a k pl 1073741824 hd hs ht hu ha k0 k1
    rw [h] at hr
    simp [eqI] at hr
    obtain ⟨dn, rfl⟩ : ∃ n : Nat, d = n := ⟨d.toNat, by omega⟩
    obtain ⟨sn, rfl⟩ : ∃ n : Nat, s = n := ⟨s.toNat, by omega⟩
    obtain ⟨tn, rfl⟩ : ∃ n : Nat, t = n := ⟨t.toNat, by omega⟩
    obtain ⟨un, rfl⟩ : ∃ n : Nat, u = n := ⟨u.toNat, by omega⟩
    obtain ⟨an, rfl⟩ : ∃ n : Nat, a = n := ⟨a.toNat, by omega⟩
    obtain ⟨kn, rfl⟩ : ∃ n : Nat, k = n := ⟨k.toNat, by omega⟩
    obtain rfl : sn = 0 := by omega
    obtain rfl : tn = 0 := by omega
    obtain rfl : un = 0 := by omega
    obtain rfl : an = 0 := by omega
    obtain rfl : kn = 0 := by omega
    obtain rfl : pl = 0 := by omega
    exact draftsR_22 dn (by omega)
  · skip
    have hr := right_23 d s t u a k pl 1073741824 hd hs ht hu ha k0 k1
    rw [h] at hr
    simp [eqI] at hr
    obtain ⟨dn, rfl⟩ : ∃ n : Nat, d = n := ⟨d.toNat, by omega⟩
    obtain ⟨sn, rfl⟩ : ∃ n : Nat, s = n := ⟨s.toNat, by omega⟩
    obtain ⟨tn, rfl⟩ : ∃ n : Nat, t = n := ⟨t.toNat, by omega⟩
    obtain ⟨un, rfl⟩ : ∃ n : Nat, u = n := ⟨u.toNat, by omega⟩
    obtain ⟨an, rfl⟩ : ∃ n : Nat, a = n := ⟨a.toNat, by omega⟩
    obtain ⟨kn, rfl⟩ : ∃ n : Nat, k = n := ⟨k.toNat, by omega⟩
    obtain rfl : dn = 0 := by omega
    obtain rfl : tn = 0 := by omega
    obtain rfl : un = 0 := by omega
    obtain rfl : an = 0 := by omega
    obtain rfl : kn = 0 := by omega
    obtain rfl : pl = 0 := by omega
    exact draftsR_23 sn (by omega)
  · exfalso
    unfold rightB at h
    simp only [(hs_none hn).1] at h
    cases h
theorem parseR_text (i : Ins) (h : rightB i 1073741824 = true) (k0 : 0 ≤ i.k) (k1 : i.k < 4294967296) : parseRB (textL i) = true := by
  obtain ⟨h1, h2⟩ := draftR_text i h k0 k1
  unfold parseRB
  rw [h1, h2, h]
  simp
end Go.Proofs.YteohnkilchkhkaaGreatDoor
