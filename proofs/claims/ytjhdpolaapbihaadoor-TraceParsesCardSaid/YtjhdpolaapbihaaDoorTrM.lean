/- Entries and their lines as lists of bytes: when there is a line, which one, what entry a line is of (by the program, and by the document: the same), texts of entries. No walk stands here. -/
import Derived.Test.YtjhdpolaapbihaaDoorEnM
import Derived.Test.YtjhdpolaapbihaaDoorWdB
namespace Go.Proofs.YtjhdpolaapbihaaDoor
set_option linter.unusedVariables false

/-- A kind's word; none: there is no such kind. -/
def wordT (k : Int) : List UInt8 :=
  if k = 1 then [99, 97, 108, 108] else if k = 2 then [101, 110, 113] else if k = 3 then [103, 114, 97, 110, 116] else if k = 4 then [97, 98, 111, 114, 116]
  else if k = 5 then [103, 111, 116] else if k = 6 then [108, 111, 115, 116] else if k = 7 then [102, 117, 108, 108] else if k = 8 then [117, 110, 108, 111, 99, 107]
  else if k = 9 then [114, 101, 108, 101, 97, 115, 101] else if k = 10 then [111, 118, 101, 114] else []
/-- The kind of a word; 0: it is none's. -/
def kindT (w : List UInt8) : Int :=
  if w = [99, 97, 108, 108] then 1 else if w = [101, 110, 113] then 2 else if w = [103, 114, 97, 110, 116] then 3 else if w = [97, 98, 111, 114, 116] then 4
  else if w = [103, 111, 116] then 5 else if w = [108, 111, 115, 116] then 6 else if w = [102, 117, 108, 108] then 7 else if w = [117, 110, 108, 111, 99, 107] then 8
  else if w = [114, 101, 108, 101, 97, 115, 101] then 9 else if w = [111, 118, 101, 114] then 10 else 0
theorem ten {k : Int} (h1 : 1 ≤ k) (h2 : k ≤ 10) : k = 1 ∨ k = 2 ∨ k = 3 ∨ k = 4 ∨ k = 5 ∨ k = 6 ∨ k = 7 ∨ k = 8 ∨ k = 9 ∨ k = 10 := by omega
theorem kind_word {k : Int} (h1 : 1 ≤ k) (h2 : k ≤ 10) : kindT (wordT k) = k := by
  rcases ten h1 h2 with rfl | rfl | rfl | rfl | rfl | rfl | rfl | rfl | rfl | rfl <;> decide
theorem word_none {k : Int} (h : k < 1 ∨ 10 < k) : wordT k = [] := by
  unfold wordT
  rw [if_neg (by omega), if_neg (by omega), if_neg (by omega), if_neg (by omega), if_neg (by omega), if_neg (by omega), if_neg (by omega), if_neg (by omega), if_neg (by omega), if_neg (by omega)]
theorem word_ne {k : Int} (h1 : 1 ≤ k) (h2 : k ≤ 10) : wordT k ≠ [] := by
  rcases ten h1 h2 with rfl | rfl | rfl | rfl | rfl | rfl | rfl | rfl | rfl | rfl <;> decide
theorem word_bf (k : Int) : Bf (wordT k) := by
  unfold wordT
  repeat' split
  all_goals (unfold Bf; decide)
theorem word_nl (k : Int) : Nl (wordT k) := by
  unfold wordT
  repeat' split
  all_goals (unfold Nl; decide)
theorem word_len (k : Int) : (wordT k).length ≤ 7 := by
  unfold wordT
  repeat' split
  all_goals simp
theorem kind_range (w : List UInt8) : 0 ≤ kindT w ∧ kindT w ≤ 10 := by
  unfold kindT
  repeat' split
  all_goals omega
theorem word_kind {w : List UInt8} (h : 1 ≤ kindT w) : wordT (kindT w) = w := by
  unfold kindT at h ⊢
  repeat' split
  all_goals first | (subst_vars; rfl) | (simp [*] at h)
theorem kind_of {w : List UInt8} {k : Int} (h1 : 1 ≤ k) (h2 : k ≤ 10) (h : wordT k = w) : kindT w = k := by rw [← h]; exact kind_word h1 h2
theorem kind_not {w : List UInt8} {k : Int} (h1 : 1 ≤ k) (h : wordT k ≠ w) : kindT w ≠ k := fun e => h (by subst e; exact word_kind h1)

/-- Has an entry a line? -/
def fitsB (x : En) : Bool := (decide (1 ≤ x.kind) && decide (x.kind ≤ 10)) && ((decide (0 ≤ x.th) && decide (x.th ≤ 63)) && (decide (0 ≤ x.now) && decide (x.now ≤ 1099511627776)))
structure Fit (x : En) : Prop where
  k0 : 1 ≤ x.kind
  k1 : x.kind ≤ 10
  t0 : 0 ≤ x.th
  t1 : x.th ≤ 63
  n0 : 0 ≤ x.now
  n1 : x.now ≤ 1099511627776
theorem fits_iff {x : En} : fitsB x = true ↔ Fit x := by
  unfold fitsB
  simp only [Bool.and_eq_true, decide_eq_true_eq]
  constructor
  · rintro ⟨⟨h1, h2⟩, ⟨h3, h4⟩, h5, h6⟩; exact ⟨h1, h2, h3, h4, h5, h6⟩
  · rintro ⟨h1, h2, h3, h4, h5, h6⟩; exact ⟨⟨h1, h2⟩, ⟨h3, h4⟩, h5, h6⟩
theorem fits_not {x : En} (h : fitsB x = false) : x.kind < 1 ∨ 10 < x.kind ∨ x.th < 0 ∨ 63 < x.th ∨ x.now < 0 ∨ 1099511627776 < x.now := by
  by_cases h2 : Fit x
  · rw [fits_iff.2 h2] at h; cases h
  · rcases Decidable.em (1 ≤ x.kind) with a | a
    · rcases Decidable.em (x.kind ≤ 10) with b | b
      · rcases Decidable.em (0 ≤ x.th) with c | c
        · rcases Decidable.em (x.th ≤ 63) with d | d
          · rcases Decidable.em (0 ≤ x.now) with e | e
            · rcases Decidable.em (x.now ≤ 1099511627776) with f | f
              · exact absurd ⟨a, b, c, d, e, f⟩ h2
              · omega
            · omega
          · omega
        · omega
      · omega
    · omega

/-- An entry's line. -/
def lineT (x : En) : List UInt8 := wordT x.kind ++ 32 :: (Lib.itoa x.th ++ 32 :: Lib.itoa x.now)
theorem itoa_of {n : Int} (h : 0 ≤ n) : Lib.itoa n = Lib.decDigits n.toNat := by
  unfold Lib.itoa
  rw [if_neg (by omega)]
theorem line_join {x : En} (h : Fit x) : lineT x = joinL (wordT x.kind) [Lib.decDigits x.th.toNat, Lib.decDigits x.now.toNat] := by
  unfold lineT joinL
  rw [itoa_of h.t0, itoa_of h.n0]
  simp
theorem dec_nl (n : Nat) : Nl (Lib.decDigits n) := by
  intro c hc e
  have := dec_digit n c hc
  rw [e] at this
  exact absurd this (by decide)
theorem line_nl {x : En} (h : Fit x) : Nl (lineT x) := by
  unfold lineT
  rw [itoa_of h.t0, itoa_of h.n0]
  refine Nl.app (word_nl _) (fun c hc => ?_)
  rcases List.mem_cons.1 hc with rfl | hc
  · decide
  refine Nl.app (dec_nl _) (fun c hc => ?_) c hc
  rcases List.mem_cons.1 hc with rfl | hc
  · decide
  · exact dec_nl _ c hc
theorem line_len {x : En} (h : Fit x) : (lineT x).length ≤ 80 := by
  have h1 := itoa_len x.th (by have := h.t0; omega) (by have := h.t1; omega)
  have h2 := itoa_len x.now (by have := h.n0; omega) (by have := h.n1; omega)
  have h3 := word_len x.kind
  unfold lineT
  simp
  omega

-- digits, and the number that they are

/-- The number of digits. -/
def valD (l : List UInt8) : Nat := l.foldl (fun n c => n * 10 + (c.toNat - 48)) 0
theorem valD_snoc (l : List UInt8) (c : UInt8) : valD (l ++ [c]) = valD l * 10 + (c.toNat - 48) := by simp [valD, List.foldl_append]
/-- Are all digits? -/
def digsB (l : List UInt8) : Bool := l.all fun c => decide (48 ≤ c.toNat) && decide (c.toNat ≤ 57)
theorem digs_mem {l : List UInt8} (h : digsB l = true) : ∀ c ∈ l, 48 ≤ c.toNat ∧ c.toNat ≤ 57 := by
  intro c hc
  have := List.all_eq_true.1 h c hc
  simpa using this
theorem digs_of {l : List UInt8} (h : ∀ c ∈ l, 48 ≤ c.toNat ∧ c.toNat ≤ 57) : digsB l = true := by
  unfold digsB
  rw [List.all_eq_true]
  intro c hc
  simpa using h c hc
theorem valD_lt : ∀ (k : Nat) (l : List UInt8), l.length = k → digsB l = true → valD l < 10 ^ k
  | 0, l, h, _ => by
    obtain rfl := List.length_eq_zero_iff.1 h
    simp [valD]
  | k + 1, l, h, hd => by
    obtain ⟨a, c, rfl⟩ : ∃ a c, l = a ++ [c] := by
      have hne : l ≠ [] := by intro e; subst e; simp at h
      exact ⟨l.dropLast, l.getLast hne, (List.dropLast_concat_getLast hne).symm⟩
    have hm := digs_mem hd
    have ih := valD_lt k a (by simpa using h) (digs_of fun d hd => hm d (by simp [hd]))
    have h2 := hm c (by simp)
    rw [valD_snoc, Nat.pow_succ]
    omega
theorem valD_few {l : List UInt8} (h : l.length ≤ 13) (hd : digsB l = true) : valD l < 10000000000000 := by
  have h1 := valD_lt l.length l rfl hd
  have h2 : 10 ^ l.length ≤ 10 ^ 13 := Nat.pow_le_pow_right (by decide) h
  omega
/-- What the document's number is. -/
def numT (l : List UInt8) : Int := if l = [] ∨ 13 < l.length ∨ (1 < l.length ∧ l.getD 0 0 = 48) ∨ digsB l = false then -1 else (valD l : Nat)
theorem valD_dec (n : Nat) : valD (Lib.decDigits n) = n := by
  induction n using Nat.strongRecOn with
  | _ n ih =>
    rw [Lib.decDigits]
    by_cases h : n < 10
    · rw [dif_pos h]
      have e : (UInt8.ofNat (48 + n)).toNat = 48 + n := by rw [UInt8.toNat_ofNat', Nat.mod_eq_of_lt (by omega)]
      show (0 * 10 + ((UInt8.ofNat (48 + n)).toNat - 48)) = n
      rw [e]; omega
    · rw [dif_neg h, valD_snoc, ih (n / 10) (by omega)]
      have e : (UInt8.ofNat (48 + n % 10)).toNat = 48 + n % 10 := by rw [UInt8.toNat_ofNat', Nat.mod_eq_of_lt (by omega)]
      rw [e]
      omega
theorem dec_short : ∀ (k n : Nat), n < 10 ^ (k + 1) → (Lib.decDigits n).length ≤ k + 1
  | 0, n, h => by rw [Lib.decDigits, dif_pos (by simpa using h)]; simp
  | k + 1, n, h => by
    rw [Lib.decDigits]
    by_cases h1 : n < 10
    · rw [dif_pos h1]; simp
    · rw [dif_neg h1]
      have h2 : n / 10 < 10 ^ (k + 1) := by
        rw [Nat.div_lt_iff_lt_mul (by decide)]
        rw [Nat.pow_succ] at h
        exact h
      have := dec_short k _ h2
      simp
      omega
theorem numT_dec {n : Nat} (h : n < 10000000000000) : numT (Lib.decDigits n) = n := by
  obtain ⟨c, r, e, h1, h2, h3⟩ := dec_cons n
  have hl := dec_short 12 n (by simpa using h)
  have hd := digs_of (dec_digit n)
  unfold numT
  rw [if_neg, valD_dec]
  rintro (h4 | h4 | ⟨h4, h5⟩ | h4)
  · rw [e] at h4; cases h4
  · omega
  · rw [e] at h5
    have h6 : c.toNat = 48 := by
      have : c = 48 := by simpa using h5
      rw [this]; rfl
    by_cases h7 : n < 10
    · rw [Lib.decDigits, dif_pos h7] at h4
      simp at h4
    · have := h3 (by omega); omega
  · rw [hd] at h4; cases h4
theorem dec_valD : ∀ (k : Nat) (l : List UInt8), l.length = k + 1 → digsB l = true → (1 < l.length → l.getD 0 0 ≠ 48) → Lib.decDigits (valD l) = l ∧ (l.getD 0 0 ≠ 48 → 1 ≤ valD l)
  | 0, l, h, hd, _ => by
    match l, h with
    | [c], _ =>
      have h2 := digs_mem hd c (by simp)
      have e : valD [c] = c.toNat - 48 := by simp [valD]
      refine ⟨?_, fun hc => ?_⟩
      · rw [e, Lib.decDigits, dif_pos (by omega), show 48 + (c.toNat - 48) = c.toNat by omega, UInt8.ofNat_toNat]
      · rw [e]
        have : c.toNat ≠ 48 := fun e2 => hc (by simp; exact UInt8.toNat_inj.1 (by simpa using e2))
        omega
  | k + 1, l, h, hd, h0 => by
    obtain ⟨a, c, rfl⟩ : ∃ a c, l = a ++ [c] := by
      have hne : l ≠ [] := by intro e; subst e; simp at h
      exact ⟨l.dropLast, l.getLast hne, (List.dropLast_concat_getLast hne).symm⟩
    have ha : a.length = k + 1 := by simpa using h
    have hm := digs_mem hd
    have hg : (a ++ [c]).getD 0 0 = a.getD 0 0 := by
      simp only [List.getD_eq_getElem?_getD]
      rw [List.getElem?_append_left (by omega)]
    have h1 := h0 (by simp; omega)
    rw [hg] at h1
    obtain ⟨i1, i2⟩ := dec_valD k a ha (digs_of fun d hd => hm d (by simp [hd])) (fun _ => h1)
    have i3 := i2 h1
    have h2 := hm c (by simp)
    rw [valD_snoc]
    refine ⟨?_, fun _ => by omega⟩
    rw [Lib.decDigits, dif_neg (by omega), show (valD a * 10 + (c.toNat - 48)) / 10 = valD a by omega, show 48 + (valD a * 10 + (c.toNat - 48)) % 10 = c.toNat by omega, i1, UInt8.ofNat_toNat]
theorem dec_numT {l : List UInt8} (h : 0 ≤ numT l) : l = Lib.decDigits (numT l).toNat := by
  unfold numT at h ⊢
  split at h
  · omega
  · rename_i hn
    rw [if_neg hn]
    simp only [not_or, not_and] at hn
    obtain ⟨h1, h2, h3, h4⟩ := hn
    have h5 : digsB l = true := by simpa using h4
    have hl : 1 ≤ l.length := List.length_pos_iff.2 h1
    have := (dec_valD (l.length - 1) l (by omega) h5 (fun hh => h3 hh)).1
    rw [Int.toNat_natCast]
    exact this.symm
theorem numT_min (l : List UInt8) : -1 ≤ numT l ∧ numT l < 10000000000000 := by
  unfold numT
  split
  · omega
  · rename_i hn
    simp only [not_or, not_and] at hn
    have := valD_few (l := l) (by omega) (by simpa using hn.2.2.2)
    omega

-- lines

/-- The entry of a line, as the document reads it. -/
def docT (s : List UInt8) : Option En :=
  match wordsL s with
  | [a, b, c] => if fitsB ⟨kindT a, numT b, numT c⟩ then some ⟨kindT a, numT b, numT c⟩ else none
  | _ => none
/-- What a number is to the program; -1: it is none. -/
def atT (d : List UInt8) : Int := match Lib.atoiAll d with
  | .ok v => v
  | _ => -1
/-- The entry whose line it may be. -/
def draftT (s : List UInt8) : En := ⟨kindT (Lib.cut s [32]).1, atT (Lib.cut (Lib.cut s [32]).2.1 [32]).1, atT (Lib.cut (Lib.cut s [32]).2.1 [32]).2.1⟩
/-- The entry of a line, as the program reads it. -/
def progT (s : List UInt8) : Option En := if fitsB (draftT s) = true ∧ lineT (draftT s) = s then some (draftT s) else none

theorem words_inv : ∀ s : List UInt8, ∃ a r, wordsL s = a :: r ∧ joinL a r = s
  | [] => ⟨[], [], rfl, rfl⟩
  | c :: s => by
    obtain ⟨a, r, e, h⟩ := words_inv s
    by_cases hc : c = 32
    · subst hc
      refine ⟨[], a :: r, by rw [wordsL, if_pos rfl, e], ?_⟩
      unfold joinL at *
      simp only [List.flatMap_cons, List.nil_append, List.cons_append]
      rw [h]
    · refine ⟨c :: a, r, by rw [wordsL, if_neg hc, e]; rfl, ?_⟩
      unfold joinL at *
      rw [List.cons_append, h]
theorem doc_iff {s : List UInt8} {x : En} : docT s = some x ↔ Fit x ∧ lineT x = s := by
  constructor
  · intro h
    unfold docT at h
    split at h
    · rename_i a b c hw
      split at h
      · rename_i hf
        injection h with h
        subst h
        have F := fits_iff.1 hf
        refine ⟨F, ?_⟩
        obtain ⟨a2, r2, e2, h2⟩ := words_inv s
        rw [hw] at e2
        injection e2 with e3 e4
        subst e3 e4
        rw [line_join F, ← h2]
        have k0 := F.k0
        have t0 := F.t0
        have n0 := F.n0
        simp only at k0 t0 n0 ⊢
        rw [word_kind k0, ← dec_numT t0, ← dec_numT n0]
      · cases h
    · cases h
  · rintro ⟨F, rfl⟩
    have hw : wordsL (lineT x) = [wordT x.kind, Lib.decDigits x.th.toNat, Lib.decDigits x.now.toNat] := by
      rw [line_join F]
      exact words_join _ _ (word_bf _) (by simp [dec_bf])
    have e : (⟨kindT (wordT x.kind), numT (Lib.decDigits x.th.toNat), numT (Lib.decDigits x.now.toNat)⟩ : En) = x := by
      have := F.t0; have := F.t1; have := F.n0; have := F.n1
      refine En.ext (kind_word F.k0 F.k1) ?_ ?_
      · show numT (Lib.decDigits x.th.toNat) = _
        rw [numT_dec (by omega)]; omega
      · show numT (Lib.decDigits x.now.toNat) = _
        rw [numT_dec (by omega)]; omega
    unfold docT
    rw [hw]
    simp only [e]
    rw [if_pos (fits_iff.2 F)]
theorem cut_at (t r : List UInt8) (h : Bf t) : Lib.cut (t ++ 32 :: r) [32] = (t, r, true) := by
  unfold Lib.cut
  rw [index_at t r h, if_pos (by omega)]
  simp [List.drop_append]
theorem atT_dec {n : Nat} (h : n < 9223372036854775808) : atT (Lib.decDigits n) = n := by
  unfold atT
  rw [atoi_dec n h]
theorem draft_line {x : En} (F : Fit x) : draftT (lineT x) = x := by
  have := F.t0; have := F.t1; have := F.n0; have := F.n1
  unfold draftT lineT
  rw [itoa_of F.t0, itoa_of F.n0, cut_at _ _ (word_bf _)]
  simp only
  rw [cut_at _ _ (dec_bf _)]
  refine En.ext (kind_word F.k0 F.k1) ?_ ?_
  · show atT (Lib.decDigits x.th.toNat) = _
    rw [atT_dec (by omega)]; omega
  · show atT (Lib.decDigits x.now.toNat) = _
    rw [atT_dec (by omega)]; omega
theorem prog_iff {s : List UInt8} {x : En} : progT s = some x ↔ Fit x ∧ lineT x = s := by
  constructor
  · intro h
    unfold progT at h
    split at h
    · rename_i hf
      injection h with h
      subst h
      exact ⟨fits_iff.1 hf.1, hf.2⟩
    · cases h
  · rintro ⟨F, rfl⟩
    unfold progT
    rw [draft_line F, if_pos ⟨fits_iff.2 F, rfl⟩]
theorem prog_doc (s : List UInt8) : progT s = docT s := by
  apply Option.ext
  intro x
  rw [prog_iff, doc_iff]
theorem atT_range (d : List UInt8) : -9223372036854775808 ≤ atT d ∧ atT d ≤ 9223372036854775807 := by
  unfold atT
  cases h : Lib.atoiAll d with
  | ok v => 
    unfold Lib.atoiAll at h
    split at h
    · cases h
    · simp only at h
      split at h
      · cases h
      · cases h
      · split at h
        · cases h
        · split at h
          · cases h
          · injection h with h
            subst h
            simp only
            split <;> omega
  | _ => simp only; omega
theorem cut_len (s : List UInt8) : (Lib.cut s [32]).1.length ≤ s.length ∧ (Lib.cut s [32]).2.1.length ≤ s.length := by
  unfold Lib.cut
  split
  · simp; omega
  · simp

-- texts

/-- The text of entries. -/
def textT (l : List En) : List UInt8 := l.flatMap fun x => lineT x ++ [10]
theorem textT_snoc (l : List En) (x : En) : textT (l ++ [x]) = textT l ++ (lineT x ++ [10]) := by simp [textT]
theorem textT_app (l m : List En) : textT (l ++ m) = textT l ++ textT m := by simp [textT]
theorem textT_len : ∀ (l : List En), (∀ x ∈ l, Fit x) → (textT l).length ≤ l.length * 81
  | [], _ => by simp [textT]
  | x :: l, h => by
    have ih := textT_len l fun y hy => h y (List.mem_cons_of_mem _ hy)
    have := line_len (h x List.mem_cons_self)
    have e : textT (x :: l) = (lineT x ++ [10]) ++ textT l := by simp [textT]
    rw [e, List.length_append, List.length_append]
    simp
    omega
/-- What is read of lines, one behind the other: the entries, how many, the error's number. -/
def readT : List (List UInt8) → List En → List En × Nat × Int
  | [], acc => (acc, acc.length, 0)
  | s :: r, acc => match docT s.dropLast with
    | some x => if s.getLast? = some 10 then readT r (acc ++ [x]) else ([], acc.length, 8)
    | none => ([], acc.length, 8)
end Go.Proofs.YtjhdpolaapbihaaDoor
