/- Texts and their words; what is drafted of them is the instruction. No walk stands here. -/
import Derived.Test.YteohnkilchkhkaaGreatDoorInstV
import Derived.Test.YteohnkilchkhkaaGreatDoorInstN
import Derived.Test.YteohnkilchkhkaaGreatDoorInstY
import Derived.Test.YteohnkilchkhkaaGreatDoorInstG
namespace Go.Proofs.YteohnkilchkhkaaGreatDoor
set_option linter.unusedVariables false

/-- No blank. -/
def Bf (l : List UInt8) : Prop := ∀ c ∈ l, c ≠ 32

theorem blank_or : ∀ s : List UInt8, Bf s ∨ ∃ t r, Bf t ∧ s = t ++ 32 :: r
  | [] => .inl (by intro c h; cases h)
  | c :: s => by
    by_cases h : c = 32
    · exact .inr ⟨[], s, (by intro c h; cases h), (by rw [h]; rfl)⟩
    · rcases blank_or s with h1 | ⟨t, r, h1, rfl⟩
      · exact .inl (by intro d hd; rcases List.mem_cons.1 hd with rfl | hd; exact h; exact h1 d hd)
      · exact .inr ⟨c :: t, r, (by intro d hd; rcases List.mem_cons.1 hd with rfl | hd; exact h; exact h1 d hd), rfl⟩
theorem index_bf : ∀ t : List UInt8, Bf t → Lib.index t [32] = -1
  | [], _ => by simp [Lib.index]
  | c :: t, h => by
    have h1 := index_bf t fun d hd => h d (List.mem_cons_of_mem _ hd)
    have h2 : c ≠ 32 := h c List.mem_cons_self
    unfold Lib.index
    rw [if_neg (by simp [List.isPrefixOf]; exact fun e => h2 e.symm), h1]
    rfl
theorem index_at : ∀ (t r : List UInt8), Bf t → Lib.index (t ++ 32 :: r) [32] = t.length
  | [], r, _ => by simp [Lib.index, List.isPrefixOf]
  | c :: t, r, h => by
    have h1 := index_at t r fun d hd => h d (List.mem_cons_of_mem _ hd)
    have h2 : c ≠ 32 := h c List.mem_cons_self
    show Lib.index (c :: (t ++ 32 :: r)) [32] = _
    unfold Lib.index
    rw [if_neg (by simp [List.isPrefixOf]; exact fun e => h2 e.symm), h1, if_neg (by simp <;> omega)]
    simp
theorem split_words : ∀ (m : Nat) (s : List UInt8), (wordsL s).length ≤ m + 1 → Lib.splitK [32] 0 m s = wordsL s
  | 0, s, h => by
    rcases blank_or s with h1 | ⟨t, r, h1, rfl⟩
    · rw [wordsL_one s h1]; rfl
    · rw [wordsL_more t r h1] at h
      have := wordsL_pos r
      rw [List.length_cons] at h
      omega
  | m + 1, s, h => by
    rcases blank_or s with h1 | ⟨t, r, h1, rfl⟩
    · rw [wordsL_one s h1]; unfold Lib.splitK; rw [index_bf s h1]; rfl
    · rw [wordsL_more t r h1] at h ⊢
      unfold Lib.splitK
      rw [index_at t r h1, if_neg (by simp <;> omega)]
      have e1 : (t ++ 32 :: r).take (((t.length : Int)).toNat + 0) = t := by simp
      have e2 : (t ++ 32 :: r).drop (((t.length : Int)).toNat + [(32 : UInt8)].length) = r := by simp [List.drop_append]
      rw [e1, e2, split_words m r (by simp at h; omega)]
theorem splitL_words (s : List UInt8) (h : (wordsL s).length ≤ 9) : splitL s = wordsL s := by
  unfold splitL Lib.splitN
  have := wordsL_len s
  exact split_words _ s (by omega)

/-- Words, with a blank ahead of each but the first. -/
def joinL (w0 : List UInt8) (ws : List (List UInt8)) : List UInt8 := w0 ++ ws.flatMap fun w => 32 :: w
theorem words_join : ∀ (ws : List (List UInt8)) (w0 : List UInt8), Bf w0 → (∀ w ∈ ws, Bf w) → wordsL (joinL w0 ws) = w0 :: ws
  | [], w0, h, _ => by unfold joinL; simp; exact wordsL_one w0 h
  | w :: ws, w0, h, hs => by
    have ih := words_join ws w (hs w List.mem_cons_self) fun v hv => hs v (List.mem_cons_of_mem _ hv)
    unfold joinL at *
    simp only [List.flatMap_cons, List.cons_append]
    rw [wordsL_more w0 _ h, ih]

theorem dec_digit : ∀ (n : Nat), ∀ c ∈ Lib.decDigits n, 48 ≤ c.toNat ∧ c.toNat ≤ 57 := by
  intro n
  induction n using Nat.strongRecOn with
  | _ n ih =>
    intro c hc
    rw [Lib.decDigits] at hc
    by_cases h : n < 10
    · rw [dif_pos h] at hc
      obtain rfl := List.mem_singleton.1 hc
      rw [UInt8.toNat_ofNat', Nat.mod_eq_of_lt (by omega)]
      omega
    · rw [dif_neg h] at hc
      rcases List.mem_append.1 hc with hc | hc
      · exact ih (n / 10) (by omega) c hc
      · obtain rfl := List.mem_singleton.1 hc
        rw [UInt8.toNat_ofNat', Nat.mod_eq_of_lt (by omega)]
        omega
theorem dec_bf (n : Nat) : Bf (Lib.decDigits n) := by
  intro c hc e
  have := dec_digit n c hc
  rw [e] at this
  exact absurd this (by decide)
theorem dec_cons (n : Nat) : ∃ c r, Lib.decDigits n = c :: r ∧ 48 ≤ c.toNat ∧ c.toNat ≤ 57 ∧ (10 ≤ n → 49 ≤ c.toNat) := by
  induction n using Nat.strongRecOn with
  | _ n ih =>
    rw [Lib.decDigits]
    by_cases h : n < 10
    · rw [dif_pos h]
      refine ⟨_, [], rfl, ?_⟩
      rw [UInt8.toNat_ofNat', Nat.mod_eq_of_lt (by omega)]
      omega
    · rw [dif_neg h]
      obtain ⟨c, r, e, h1, h2, h3⟩ := ih (n / 10) (by omega)
      rw [e]
      refine ⟨c, _, rfl, h1, h2, fun _ => ?_⟩
      by_cases h9 : 10 ≤ n / 10
      · exact h3 h9
      · rw [Lib.decDigits, dif_pos (by omega)] at e
        injection e with e1 _
        rw [← e1, UInt8.toNat_ofNat', Nat.mod_eq_of_lt (by omega)]
        omega
theorem parse_app : ∀ (a b : List UInt8) (acc u : Nat), Lib.parseUint10 acc a = .ok u → Lib.parseUint10 acc (a ++ b) = Lib.parseUint10 u b
  | [], b, acc, u, h => by simp [Lib.parseUint10] at h; subst h; rfl
  | c :: a, b, acc, u, h => by
    simp only [Lib.parseUint10, List.cons_append] at h ⊢
    split at h
    · split at h
      · cases h
      · split at h
        · cases h
        · rename_i h1 h2 h3
          rw [if_pos h1, if_neg h2, if_neg h3]
          exact parse_app a b _ u h
    · cases h
theorem parse_dec : ∀ (n : Nat), n < 18446744073709551616 → Lib.parseUint10 0 (Lib.decDigits n) = .ok n := by
  intro n
  induction n using Nat.strongRecOn with
  | _ n ih =>
    intro hn
    rw [Lib.decDigits]
    by_cases h : n < 10
    · rw [dif_pos h]
      have e : (UInt8.ofNat (48 + n)).toNat = 48 + n := by rw [UInt8.toNat_ofNat', Nat.mod_eq_of_lt (by omega)]
      simp only [Lib.parseUint10, e]
      rw [if_pos (by omega), if_neg (by omega), if_neg (by omega)]
      congr 1
      omega
    · rw [dif_neg h, parse_app _ _ _ _ (ih (n / 10) (by omega) (by omega))]
      have e : (UInt8.ofNat (48 + n % 10)).toNat = 48 + n % 10 := by rw [UInt8.toNat_ofNat', Nat.mod_eq_of_lt (by omega)]
      simp only [Lib.parseUint10, e]
      rw [if_pos (by omega), if_neg (by omega), if_neg (by omega)]
      congr 1
      omega
theorem atoi_dec (n : Nat) (h : n < 9223372036854775808) : Lib.atoiAll (Lib.decDigits n) = .ok n := by
  obtain ⟨c, r, e, h1, h2, -⟩ := dec_cons n
  have hp := parse_dec n (by omega)
  rw [e] at hp ⊢
  unfold Lib.atoiAll Lib.parseMag
  simp only
  rw [if_neg (show ¬ (c.toNat = 43 ∨ c.toNat = 45) by omega), if_neg (by simp), hp]
  simp only
  rw [if_neg (by omega), if_neg (by omega), if_neg (by omega)]

/-- A register's word. -/
def rgw (n : Nat) : List UInt8 := 114 :: Lib.decDigits n
theorem rgw_bf (n : Nat) : Bf (rgw n) := by
  intro c hc
  rcases List.mem_cons.1 hc with rfl | hc
  · decide
  · exact dec_bf n c hc
theorem val_dec (n : Nat) (h : n < 9223372036854775808) : valL (Lib.decDigits n) = n := by
  have ha := atoi_dec n h
  obtain ⟨c, r, e, h1, h2, -⟩ := dec_cons n
  rw [e] at ha ⊢
  have n1 : c ≠ 101 := fun e => by rw [e] at h2; exact absurd h2 (by decide)
  have n2 : c ≠ 110 := fun e => by rw [e] at h2; exact absurd h2 (by decide)
  have n3 : c ≠ 114 := fun e => by rw [e] at h2; exact absurd h2 (by decide)
  unfold valL
  rw [if_neg (by intro e; injection e with e _; exact n1 e), if_neg (by intro e; injection e with e _; exact n2 e)]
  have et : Lib.trimPrefix (c :: r) [114] = c :: r := by
    unfold Lib.trimPrefix Lib.hasPrefix
    rw [if_neg (by simp [List.isPrefixOf]; exact fun e => n3 e.symm)]
  rw [et, ha]
theorem val_rgw (n : Nat) (h : n < 9223372036854775808) : valL (rgw n) = n := by
  have ha := atoi_dec n h
  unfold valL rgw
  rw [if_neg (by intro e; injection e with e _; exact absurd e (by decide)), if_neg (by intro e; injection e with e _; exact absurd e (by decide))]
  have et : Lib.trimPrefix (114 :: Lib.decDigits n) [114] = Lib.decDigits n := by
    unfold Lib.trimPrefix Lib.hasPrefix
    rw [if_pos (by simp [List.isPrefixOf])]
    rfl
  rw [et, ha]

theorem join_1 (dn kn : Nat) : textL ⟨1, (dn : Nat), 0, 0, 0, 0, (kn : Nat), 0⟩ = joinL (nmL 1) [rgw dn, Lib.decDigits kn] := by
  simp [textL, hsL, partsL, partL, getI, itoa_nat, joinL, rgw]
theorem words_1 (dn kn : Nat) : wordsL (textL ⟨1, (dn : Nat), 0, 0, 0, 0, (kn : Nat), 0⟩) = nmL 1 :: [rgw dn, Lib.decDigits kn] := by
  rw [join_1]
  exact words_join _ _ (by unfold Bf; decide) (by simp [rgw_bf, dec_bf])
theorem drafts_1 (dn kn : Nat) (hdn : dn < 9223372036854775808) (hkn : kn < 9223372036854775808) (k1 : kn < 4294967296) : parsedI (textL ⟨1, (dn : Nat), 0, 0, 0, 0, (kn : Nat), 0⟩) = ⟨1, (dn : Nat), 0, 0, 0, 0, (kn : Nat), 0⟩ := by
  unfold parsedI
  rw [splitL_words _ (by rw [words_1]; simp), words_1]
  have e : opN (nmL 1) = 1 := by decide
  simp [draftI, e, hsL, fillI, lastI, setI, valAt, val_rgw dn hdn, val_dec kn hkn, Ins.zero]
  omega
theorem join_2 (dn sn : Nat) : textL ⟨2, (dn : Nat), (sn : Nat), 0, 0, 0, 0, 0⟩ = joinL (nmL 2) [rgw dn, rgw sn] := by
  simp [textL, hsL, partsL, partL, getI, itoa_nat, joinL, rgw]
theorem words_2 (dn sn : Nat) : wordsL (textL ⟨2, (dn : Nat), (sn : Nat), 0, 0, 0, 0, 0⟩) = nmL 2 :: [rgw dn, rgw sn] := by
  rw [join_2]
  exact words_join _ _ (by unfold Bf; decide) (by simp [rgw_bf])
theorem drafts_2 (dn sn : Nat) (hdn : dn < 9223372036854775808) (hsn : sn < 9223372036854775808) : parsedI (textL ⟨2, (dn : Nat), (sn : Nat), 0, 0, 0, 0, 0⟩) = ⟨2, (dn : Nat), (sn : Nat), 0, 0, 0, 0, 0⟩ := by
  unfold parsedI
  rw [splitL_words _ (by rw [words_2]; simp), words_2]
  have e : opN (nmL 2) = 2 := by decide
  simp [draftI, e, hsL, fillI, lastI, setI, valAt, val_rgw dn hdn, val_rgw sn hsn, Ins.zero]
theorem join_3 (dn sn kn : Nat) : textL ⟨3, (dn : Nat), (sn : Nat), 0, 0, 0, (kn : Nat), 0⟩ = joinL (nmL 3) [rgw dn, rgw sn, Lib.decDigits kn] := by
  simp [textL, hsL, partsL, partL, getI, itoa_nat, joinL, rgw]
theorem words_3 (dn sn kn : Nat) : wordsL (textL ⟨3, (dn : Nat), (sn : Nat), 0, 0, 0, (kn : Nat), 0⟩) = nmL 3 :: [rgw dn, rgw sn, Lib.decDigits kn] := by
  rw [join_3]
  exact words_join _ _ (by unfold Bf; decide) (by simp [rgw_bf, dec_bf])
theorem drafts_3 (dn sn kn : Nat) (hdn : dn < 9223372036854775808) (hsn : sn < 9223372036854775808) (hkn : kn < 9223372036854775808) (k1 : kn < 4294967296) : parsedI (textL ⟨3, (dn : Nat), (sn : Nat), 0, 0, 0, (kn : Nat), 0⟩) = ⟨3, (dn : Nat), (sn : Nat), 0, 0, 0, (kn : Nat), 0⟩ := by
  unfold parsedI
  rw [splitL_words _ (by rw [words_3]; simp), words_3]
  have e : opN (nmL 3) = 3 := by decide
  simp [draftI, e, hsL, fillI, lastI, setI, valAt, val_rgw dn hdn, val_rgw sn hsn, val_dec kn hkn, Ins.zero]
  omega
theorem join_4 (dn sn kn : Nat) : textL ⟨4, (dn : Nat), (sn : Nat), 0, 0, 0, (kn : Nat), 0⟩ = joinL (nmL 4) [rgw dn, rgw sn, Lib.decDigits kn] := by
  simp [textL, hsL, partsL, partL, getI, itoa_nat, joinL, rgw]
theorem words_4 (dn sn kn : Nat) : wordsL (textL ⟨4, (dn : Nat), (sn : Nat), 0, 0, 0, (kn : Nat), 0⟩) = nmL 4 :: [rgw dn, rgw sn, Lib.decDigits kn] := by
  rw [join_4]
  exact words_join _ _ (by unfold Bf; decide) (by simp [rgw_bf, dec_bf])
theorem drafts_4 (dn sn kn : Nat) (hdn : dn < 9223372036854775808) (hsn : sn < 9223372036854775808) (hkn : kn < 9223372036854775808) (k1 : kn < 4294967296) : parsedI (textL ⟨4, (dn : Nat), (sn : Nat), 0, 0, 0, (kn : Nat), 0⟩) = ⟨4, (dn : Nat), (sn : Nat), 0, 0, 0, (kn : Nat), 0⟩ := by
  unfold parsedI
  rw [splitL_words _ (by rw [words_4]; simp), words_4]
  have e : opN (nmL 4) = 4 := by decide
  simp [draftI, e, hsL, fillI, lastI, setI, valAt, val_rgw dn hdn, val_rgw sn hsn, val_dec kn hkn, Ins.zero]
  omega
theorem join_5 (dn sn kn : Nat) : textL ⟨5, (dn : Nat), (sn : Nat), 0, 0, 0, (kn : Nat), 0⟩ = joinL (nmL 5) [rgw dn, rgw sn, Lib.decDigits kn] := by
  simp [textL, hsL, partsL, partL, getI, itoa_nat, joinL, rgw]
theorem words_5 (dn sn kn : Nat) : wordsL (textL ⟨5, (dn : Nat), (sn : Nat), 0, 0, 0, (kn : Nat), 0⟩) = nmL 5 :: [rgw dn, rgw sn, Lib.decDigits kn] := by
  rw [join_5]
  exact words_join _ _ (by unfold Bf; decide) (by simp [rgw_bf, dec_bf])
theorem drafts_5 (dn sn kn : Nat) (hdn : dn < 9223372036854775808) (hsn : sn < 9223372036854775808) (hkn : kn < 9223372036854775808) (k1 : kn < 4294967296) : parsedI (textL ⟨5, (dn : Nat), (sn : Nat), 0, 0, 0, (kn : Nat), 0⟩) = ⟨5, (dn : Nat), (sn : Nat), 0, 0, 0, (kn : Nat), 0⟩ := by
  unfold parsedI
  rw [splitL_words _ (by rw [words_5]; simp), words_5]
  have e : opN (nmL 5) = 5 := by decide
  simp [draftI, e, hsL, fillI, lastI, setI, valAt, val_rgw dn hdn, val_rgw sn hsn, val_dec kn hkn, Ins.zero]
  omega
theorem join_6 (dn sn kn : Nat) : textL ⟨6, (dn : Nat), (sn : Nat), 0, 0, 0, (kn : Nat), 0⟩ = joinL (nmL 6) [rgw dn, rgw sn, Lib.decDigits kn] := by
  simp [textL, hsL, partsL, partL, getI, itoa_nat, joinL, rgw]
theorem words_6 (dn sn kn : Nat) : wordsL (textL ⟨6, (dn : Nat), (sn : Nat), 0, 0, 0, (kn : Nat), 0⟩) = nmL 6 :: [rgw dn, rgw sn, Lib.decDigits kn] := by
  rw [join_6]
  exact words_join _ _ (by unfold Bf; decide) (by simp [rgw_bf, dec_bf])
theorem drafts_6 (dn sn kn : Nat) (hdn : dn < 9223372036854775808) (hsn : sn < 9223372036854775808) (hkn : kn < 9223372036854775808) (k1 : kn < 4294967296) : parsedI (textL ⟨6, (dn : Nat), (sn : Nat), 0, 0, 0, (kn : Nat), 0⟩) = ⟨6, (dn : Nat), (sn : Nat), 0, 0, 0, (kn : Nat), 0⟩ := by
  unfold parsedI
  rw [splitL_words _ (by rw [words_6]; simp), words_6]
  have e : opN (nmL 6) = 6 := by decide
  simp [draftI, e, hsL, fillI, lastI, setI, valAt, val_rgw dn hdn, val_rgw sn hsn, val_dec kn hkn, Ins.zero]
  omega
theorem join_7 (dn sn tn : Nat) : textL ⟨7, (dn : Nat), (sn : Nat), (tn : Nat), 0, 0, 0, 0⟩ = joinL (nmL 7) [rgw dn, rgw sn, rgw tn] := by
  simp [textL, hsL, partsL, partL, getI, itoa_nat, joinL, rgw]
theorem words_7 (dn sn tn : Nat) : wordsL (textL ⟨7, (dn : Nat), (sn : Nat), (tn : Nat), 0, 0, 0, 0⟩) = nmL 7 :: [rgw dn, rgw sn, rgw tn] := by
  rw [join_7]
  exact words_join _ _ (by unfold Bf; decide) (by simp [rgw_bf])
theorem drafts_7 (dn sn tn : Nat) (hdn : dn < 9223372036854775808) (hsn : sn < 9223372036854775808) (htn : tn < 9223372036854775808) : parsedI (textL ⟨7, (dn : Nat), (sn : Nat), (tn : Nat), 0, 0, 0, 0⟩) = ⟨7, (dn : Nat), (sn : Nat), (tn : Nat), 0, 0, 0, 0⟩ := by
  unfold parsedI
  rw [splitL_words _ (by rw [words_7]; simp), words_7]
  have e : opN (nmL 7) = 7 := by decide
  simp [draftI, e, hsL, fillI, lastI, setI, valAt, val_rgw dn hdn, val_rgw sn hsn, val_rgw tn htn, Ins.zero]
theorem join_8 (sn tn pn : Nat) : textL ⟨8, 0, (sn : Nat), (tn : Nat), 0, 0, 0, (pn : Nat)⟩ = joinL (nmL 8) [rgw sn, rgw tn, Lib.decDigits pn] := by
  simp [textL, hsL, partsL, partL, getI, itoa_nat, joinL, rgw]
theorem words_8 (sn tn pn : Nat) : wordsL (textL ⟨8, 0, (sn : Nat), (tn : Nat), 0, 0, 0, (pn : Nat)⟩) = nmL 8 :: [rgw sn, rgw tn, Lib.decDigits pn] := by
  rw [join_8]
  exact words_join _ _ (by unfold Bf; decide) (by simp [rgw_bf, dec_bf])
theorem drafts_8 (sn tn pn : Nat) (hsn : sn < 9223372036854775808) (htn : tn < 9223372036854775808) (hpn : pn < 9223372036854775808) : parsedI (textL ⟨8, 0, (sn : Nat), (tn : Nat), 0, 0, 0, (pn : Nat)⟩) = ⟨8, 0, (sn : Nat), (tn : Nat), 0, 0, 0, (pn : Nat)⟩ := by
  unfold parsedI
  rw [splitL_words _ (by rw [words_8]; simp), words_8]
  have e : opN (nmL 8) = 8 := by decide
  simp [draftI, e, hsL, fillI, lastI, setI, valAt, val_rgw sn hsn, val_rgw tn htn, val_dec pn hpn, Ins.zero]
theorem join_9 (sn tn pn : Nat) : textL ⟨9, 0, (sn : Nat), (tn : Nat), 0, 0, 0, (pn : Nat)⟩ = joinL (nmL 9) [rgw sn, rgw tn, Lib.decDigits pn] := by
  simp [textL, hsL, partsL, partL, getI, itoa_nat, joinL, rgw]
theorem words_9 (sn tn pn : Nat) : wordsL (textL ⟨9, 0, (sn : Nat), (tn : Nat), 0, 0, 0, (pn : Nat)⟩) = nmL 9 :: [rgw sn, rgw tn, Lib.decDigits pn] := by
  rw [join_9]
  exact words_join _ _ (by unfold Bf; decide) (by simp [rgw_bf, dec_bf])
theorem drafts_9 (sn tn pn : Nat) (hsn : sn < 9223372036854775808) (htn : tn < 9223372036854775808) (hpn : pn < 9223372036854775808) : parsedI (textL ⟨9, 0, (sn : Nat), (tn : Nat), 0, 0, 0, (pn : Nat)⟩) = ⟨9, 0, (sn : Nat), (tn : Nat), 0, 0, 0, (pn : Nat)⟩ := by
  unfold parsedI
  rw [splitL_words _ (by rw [words_9]; simp), words_9]
  have e : opN (nmL 9) = 9 := by decide
  simp [draftI, e, hsL, fillI, lastI, setI, valAt, val_rgw sn hsn, val_rgw tn htn, val_dec pn hpn, Ins.zero]
theorem join_10 (pn : Nat) : textL ⟨10, 0, 0, 0, 0, 0, 0, (pn : Nat)⟩ = joinL (nmL 10) [Lib.decDigits pn] := by
  simp [textL, hsL, partsL, partL, getI, itoa_nat, joinL]
theorem words_10 (pn : Nat) : wordsL (textL ⟨10, 0, 0, 0, 0, 0, 0, (pn : Nat)⟩) = nmL 10 :: [Lib.decDigits pn] := by
  rw [join_10]
  exact words_join _ _ (by unfold Bf; decide) (by simp [dec_bf])
theorem drafts_10 (pn : Nat) (hpn : pn < 9223372036854775808) : parsedI (textL ⟨10, 0, 0, 0, 0, 0, 0, (pn : Nat)⟩) = ⟨10, 0, 0, 0, 0, 0, 0, (pn : Nat)⟩ := by
  unfold parsedI
  rw [splitL_words _ (by rw [words_10]; simp), words_10]
  have e : opN (nmL 10) = 10 := by decide
  simp [draftI, e, hsL, fillI, lastI, setI, valAt, val_dec pn hpn, Ins.zero]
theorem join_11 (dn : Nat) : textL ⟨11, (dn : Nat), 0, 0, 0, 0, 0, 0⟩ = joinL (nmL 11) [rgw dn] := by
  simp [textL, hsL, partsL, partL, getI, itoa_nat, joinL, rgw]
theorem words_11 (dn : Nat) : wordsL (textL ⟨11, (dn : Nat), 0, 0, 0, 0, 0, 0⟩) = nmL 11 :: [rgw dn] := by
  rw [join_11]
  exact words_join _ _ (by unfold Bf; decide) (by simp [rgw_bf])
theorem drafts_11 (dn : Nat) (hdn : dn < 9223372036854775808) : parsedI (textL ⟨11, (dn : Nat), 0, 0, 0, 0, 0, 0⟩) = ⟨11, (dn : Nat), 0, 0, 0, 0, 0, 0⟩ := by
  unfold parsedI
  rw [splitL_words _ (by rw [words_11]; simp), words_11]
  have e : opN (nmL 11) = 11 := by decide
  simp [draftI, e, hsL, fillI, lastI, setI, valAt, val_rgw dn hdn, Ins.zero]
theorem join_22 (dn : Nat) : textL ⟨22, (dn : Nat), 0, 0, 0, 0, 0, 0⟩ = joinL (nmL 22) [rgw dn] := by
  simp [textL, hsL, partsL, partL, getI, itoa_nat, joinL, rgw]
theorem words_22 (dn : Nat) : wordsL (textL ⟨22, (dn : Nat), 0, 0, 0, 0, 0, 0⟩) = nmL 22 :: [rgw dn] := by
  rw [join_22]
  exact words_join _ _ (by unfold Bf; decide) (by simp [rgw_bf])
theorem drafts_22 (dn : Nat) (hdn : dn < 9223372036854775808) : parsedI (textL ⟨22, (dn : Nat), 0, 0, 0, 0, 0, 0⟩) = ⟨22, (dn : Nat), 0, 0, 0, 0, 0, 0⟩ := by
  unfold parsedI
  rw [splitL_words _ (by rw [words_22]; simp), words_22]
  have e : opN (nmL 22) = 22 := by decide
  simp [draftI, e, hsL, fillI, lastI, setI, valAt, val_rgw dn hdn, Ins.zero]
theorem join_12 (kn : Nat) : textL ⟨12, 0, 0, 0, 0, 0, (kn : Nat), 0⟩ = joinL (nmL 12) [Lib.decDigits kn] := by
  simp [textL, hsL, partsL, partL, getI, itoa_nat, joinL]
theorem words_12 (kn : Nat) : wordsL (textL ⟨12, 0, 0, 0, 0, 0, (kn : Nat), 0⟩) = nmL 12 :: [Lib.decDigits kn] := by
  rw [join_12]
  exact words_join _ _ (by unfold Bf; decide) (by simp [dec_bf])
theorem drafts_12 (kn : Nat) (hkn : kn < 9223372036854775808) (k1 : kn < 4294967296) : parsedI (textL ⟨12, 0, 0, 0, 0, 0, (kn : Nat), 0⟩) = ⟨12, 0, 0, 0, 0, 0, (kn : Nat), 0⟩ := by
  unfold parsedI
  rw [splitL_words _ (by rw [words_12]; simp), words_12]
  have e : opN (nmL 12) = 12 := by decide
  simp [draftI, e, hsL, fillI, lastI, setI, valAt, val_dec kn hkn, Ins.zero]
  omega
theorem join_13 (kn : Nat) : textL ⟨13, 0, 0, 0, 0, 0, (kn : Nat), 0⟩ = joinL (nmL 13) [Lib.decDigits kn] := by
  simp [textL, hsL, partsL, partL, getI, itoa_nat, joinL]
theorem words_13 (kn : Nat) : wordsL (textL ⟨13, 0, 0, 0, 0, 0, (kn : Nat), 0⟩) = nmL 13 :: [Lib.decDigits kn] := by
  rw [join_13]
  exact words_join _ _ (by unfold Bf; decide) (by simp [dec_bf])
theorem drafts_13 (kn : Nat) (hkn : kn < 9223372036854775808) (k1 : kn < 4294967296) : parsedI (textL ⟨13, 0, 0, 0, 0, 0, (kn : Nat), 0⟩) = ⟨13, 0, 0, 0, 0, 0, (kn : Nat), 0⟩ := by
  unfold parsedI
  rw [splitL_words _ (by rw [words_13]; simp), words_13]
  have e : opN (nmL 13) = 13 := by decide
  simp [draftI, e, hsL, fillI, lastI, setI, valAt, val_dec kn hkn, Ins.zero]
  omega
theorem join_16 (dn sn an : Nat) : textL ⟨16, (dn : Nat), (sn : Nat), 0, 0, (an : Nat), 0, 0⟩ = joinL (nmL 16) [rgw dn, Lib.decDigits an, rgw sn] := by
  simp [textL, hsL, partsL, partL, getI, itoa_nat, joinL, rgw]
theorem words_16 (dn sn an : Nat) : wordsL (textL ⟨16, (dn : Nat), (sn : Nat), 0, 0, (an : Nat), 0, 0⟩) = nmL 16 :: [rgw dn, Lib.decDigits an, rgw sn] := by
  rw [join_16]
  exact words_join _ _ (by unfold Bf; decide) (by simp [rgw_bf, dec_bf])
theorem drafts_16 (dn sn an : Nat) (hdn : dn < 9223372036854775808) (hsn : sn < 9223372036854775808) (han : an < 9223372036854775808) : parsedI (textL ⟨16, (dn : Nat), (sn : Nat), 0, 0, (an : Nat), 0, 0⟩) = ⟨16, (dn : Nat), (sn : Nat), 0, 0, (an : Nat), 0, 0⟩ := by
  unfold parsedI
  rw [splitL_words _ (by rw [words_16]; simp), words_16]
  have e : opN (nmL 16) = 16 := by decide
  simp [draftI, e, hsL, fillI, lastI, setI, valAt, val_rgw dn hdn, val_rgw sn hsn, val_dec an han, Ins.zero]
theorem join_17 (sn tn an : Nat) : textL ⟨17, 0, (sn : Nat), (tn : Nat), 0, (an : Nat), 0, 0⟩ = joinL (nmL 17) [Lib.decDigits an, rgw sn, rgw tn] := by
  simp [textL, hsL, partsL, partL, getI, itoa_nat, joinL, rgw]
theorem words_17 (sn tn an : Nat) : wordsL (textL ⟨17, 0, (sn : Nat), (tn : Nat), 0, (an : Nat), 0, 0⟩) = nmL 17 :: [Lib.decDigits an, rgw sn, rgw tn] := by
  rw [join_17]
  exact words_join _ _ (by unfold Bf; decide) (by simp [rgw_bf, dec_bf])
theorem drafts_17 (sn tn an : Nat) (hsn : sn < 9223372036854775808) (htn : tn < 9223372036854775808) (han : an < 9223372036854775808) : parsedI (textL ⟨17, 0, (sn : Nat), (tn : Nat), 0, (an : Nat), 0, 0⟩) = ⟨17, 0, (sn : Nat), (tn : Nat), 0, (an : Nat), 0, 0⟩ := by
  unfold parsedI
  rw [splitL_words _ (by rw [words_17]; simp), words_17]
  have e : opN (nmL 17) = 17 := by decide
  simp [draftI, e, hsL, fillI, lastI, setI, valAt, val_rgw sn hsn, val_rgw tn htn, val_dec an han, Ins.zero]
theorem join_18 (dn sn tn an : Nat) : textL ⟨18, (dn : Nat), (sn : Nat), (tn : Nat), 0, (an : Nat), 0, 0⟩ = joinL (nmL 18) [rgw dn, Lib.decDigits an, rgw sn, rgw tn] := by
  simp [textL, hsL, partsL, partL, getI, itoa_nat, joinL, rgw]
theorem words_18 (dn sn tn an : Nat) : wordsL (textL ⟨18, (dn : Nat), (sn : Nat), (tn : Nat), 0, (an : Nat), 0, 0⟩) = nmL 18 :: [rgw dn, Lib.decDigits an, rgw sn, rgw tn] := by
  rw [join_18]
  exact words_join _ _ (by unfold Bf; decide) (by simp [rgw_bf, dec_bf])
theorem drafts_18 (dn sn tn an : Nat) (hdn : dn < 9223372036854775808) (hsn : sn < 9223372036854775808) (htn : tn < 9223372036854775808) (han : an < 9223372036854775808) : parsedI (textL ⟨18, (dn : Nat), (sn : Nat), (tn : Nat), 0, (an : Nat), 0, 0⟩) = ⟨18, (dn : Nat), (sn : Nat), (tn : Nat), 0, (an : Nat), 0, 0⟩ := by
  unfold parsedI
  rw [splitL_words _ (by rw [words_18]; simp), words_18]
  have e : opN (nmL 18) = 18 := by decide
  simp [draftI, e, hsL, fillI, lastI, setI, valAt, val_rgw dn hdn, val_rgw sn hsn, val_rgw tn htn, val_dec an han, Ins.zero]
theorem join_19 (dn sn tn un an : Nat) : textL ⟨19, (dn : Nat), (sn : Nat), (tn : Nat), (un : Nat), (an : Nat), 0, 0⟩ = joinL (nmL 19) [rgw dn, Lib.decDigits an, rgw sn, rgw tn, rgw un] := by
  simp [textL, hsL, partsL, partL, getI, itoa_nat, joinL, rgw]
theorem words_19 (dn sn tn un an : Nat) : wordsL (textL ⟨19, (dn : Nat), (sn : Nat), (tn : Nat), (un : Nat), (an : Nat), 0, 0⟩) = nmL 19 :: [rgw dn, Lib.decDigits an, rgw sn, rgw tn, rgw un] := by
  rw [join_19]
  exact words_join _ _ (by unfold Bf; decide) (by simp [rgw_bf, dec_bf])
theorem drafts_19 (dn sn tn un an : Nat) (hdn : dn < 9223372036854775808) (hsn : sn < 9223372036854775808) (htn : tn < 9223372036854775808) (hun : un < 9223372036854775808) (han : an < 9223372036854775808) : parsedI (textL ⟨19, (dn : Nat), (sn : Nat), (tn : Nat), (un : Nat), (an : Nat), 0, 0⟩) = ⟨19, (dn : Nat), (sn : Nat), (tn : Nat), (un : Nat), (an : Nat), 0, 0⟩ := by
  unfold parsedI
  rw [splitL_words _ (by rw [words_19]; simp), words_19]
  have e : opN (nmL 19) = 19 := by decide
  simp [draftI, e, hsL, fillI, lastI, setI, valAt, val_rgw dn hdn, val_rgw sn hsn, val_rgw tn htn, val_rgw un hun, val_dec an han, Ins.zero]
theorem join_20 (dn sn an kn : Nat) : textL ⟨20, (dn : Nat), (sn : Nat), 0, 0, (an : Nat), (kn : Nat), 0⟩ = joinL (nmL 20) [rgw dn, Lib.decDigits an, rgw sn, Lib.decDigits kn] := by
  simp [textL, hsL, partsL, partL, getI, itoa_nat, joinL, rgw]
theorem words_20 (dn sn an kn : Nat) : wordsL (textL ⟨20, (dn : Nat), (sn : Nat), 0, 0, (an : Nat), (kn : Nat), 0⟩) = nmL 20 :: [rgw dn, Lib.decDigits an, rgw sn, Lib.decDigits kn] := by
  rw [join_20]
  exact words_join _ _ (by unfold Bf; decide) (by simp [rgw_bf, dec_bf])
theorem drafts_20 (dn sn an kn : Nat) (hdn : dn < 9223372036854775808) (hsn : sn < 9223372036854775808) (han : an < 9223372036854775808) (hkn : kn < 9223372036854775808) (k1 : kn < 4294967296) : parsedI (textL ⟨20, (dn : Nat), (sn : Nat), 0, 0, (an : Nat), (kn : Nat), 0⟩) = ⟨20, (dn : Nat), (sn : Nat), 0, 0, (an : Nat), (kn : Nat), 0⟩ := by
  unfold parsedI
  rw [splitL_words _ (by rw [words_20]; simp), words_20]
  have e : opN (nmL 20) = 20 := by decide
  simp [draftI, e, hsL, fillI, lastI, setI, valAt, val_rgw dn hdn, val_rgw sn hsn, val_dec an han, val_dec kn hkn, Ins.zero]
  omega
theorem join_23 (sn : Nat) : textL ⟨23, 0, (sn : Nat), 0, 0, 0, 0, 0⟩ = joinL (nmL 23) [rgw sn] := by
  simp [textL, hsL, partsL, partL, getI, itoa_nat, joinL, rgw]
theorem words_23 (sn : Nat) : wordsL (textL ⟨23, 0, (sn : Nat), 0, 0, 0, 0, 0⟩) = nmL 23 :: [rgw sn] := by
  rw [join_23]
  exact words_join _ _ (by unfold Bf; decide) (by simp [rgw_bf])
theorem drafts_23 (sn : Nat) (hsn : sn < 9223372036854775808) : parsedI (textL ⟨23, 0, (sn : Nat), 0, 0, 0, 0, 0⟩) = ⟨23, 0, (sn : Nat), 0, 0, 0, 0, 0⟩ := by
  unfold parsedI
  rw [splitL_words _ (by rw [words_23]; simp), words_23]
  have e : opN (nmL 23) = 23 := by decide
  simp [draftI, e, hsL, fillI, lastI, setI, valAt, val_rgw sn hsn, Ins.zero]
end Go.Proofs.YteohnkilchkhkaaGreatDoor
