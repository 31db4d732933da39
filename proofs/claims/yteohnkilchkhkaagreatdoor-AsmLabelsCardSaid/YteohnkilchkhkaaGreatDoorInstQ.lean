/- What is parsed of a right instruction's text is the instruction. No walk stands here. -/
import Derived.Test.YteohnkilchkhkaaGreatDoorInstP
namespace Go.Proofs.YteohnkilchkhkaaGreatDoor
set_option linter.unusedVariables false

theorem join_21_0p (dn sn tn an pn : Nat) : textL ⟨21, (dn : Nat), (sn : Nat), (tn : Nat), 0, (an : Nat), 0, (pn : Nat)⟩ = joinL (nmL 21) [rgw dn, Lib.decDigits an, rgw sn, [101, 113], rgw tn, [101, 108, 115, 101], Lib.decDigits pn] := by
  have e : ¬ ((pn : Int) = -1) := by omega
  simp [textL, hsL, partsL, partL, getI, itoa_nat, joinL, rgw, e]
theorem words_21_0p (dn sn tn an pn : Nat) : wordsL (textL ⟨21, (dn : Nat), (sn : Nat), (tn : Nat), 0, (an : Nat), 0, (pn : Nat)⟩) = nmL 21 :: [rgw dn, Lib.decDigits an, rgw sn, [101, 113], rgw tn, [101, 108, 115, 101], Lib.decDigits pn] := by
  rw [join_21_0p dn sn tn an pn]
  refine words_join _ _ (by unfold Bf; decide) ?_
  have b1 : Bf [101, 113] := by unfold Bf; decide
  have b2 : Bf [101, 108, 115, 101] := by unfold Bf; decide
  simp [rgw_bf, dec_bf, b1, b2]
theorem drafts_21_0p (dn sn tn an pn : Nat) (hdn : dn < 9223372036854775808) (hsn : sn < 9223372036854775808) (htn : tn < 9223372036854775808) (han : an < 9223372036854775808) (hpn : pn < 9223372036854775808) : parsedI (textL ⟨21, (dn : Nat), (sn : Nat), (tn : Nat), 0, (an : Nat), 0, (pn : Nat)⟩) = ⟨21, (dn : Nat), (sn : Nat), (tn : Nat), 0, (an : Nat), 0, (pn : Nat)⟩ := by
  unfold parsedI
  rw [splitL_words _ (by rw [words_21_0p dn sn tn an pn]; simp), words_21_0p dn sn tn an pn]
  have e : opN (nmL 21) = 21 := by decide
  have v : valL [101, 113] = 0 := by decide
  simp [draftI, e, hsL, fillI, lastI, setI, valAt, val_rgw dn hdn, val_rgw sn hsn, val_rgw tn htn, val_dec an han, val_dec pn hpn, v, Ins.zero]
theorem join_21_0m (dn sn tn an pn : Nat) : textL ⟨21, (dn : Nat), (sn : Nat), (tn : Nat), 0, (an : Nat), 0, -1⟩ = joinL (nmL 21) [rgw dn, Lib.decDigits an, rgw sn, [101, 113], rgw tn] := by
  simp [textL, hsL, partsL, partL, getI, itoa_nat, joinL, rgw]
theorem words_21_0m (dn sn tn an pn : Nat) : wordsL (textL ⟨21, (dn : Nat), (sn : Nat), (tn : Nat), 0, (an : Nat), 0, -1⟩) = nmL 21 :: [rgw dn, Lib.decDigits an, rgw sn, [101, 113], rgw tn] := by
  rw [join_21_0m dn sn tn an pn]
  refine words_join _ _ (by unfold Bf; decide) ?_
  have b1 : Bf [101, 113] := by unfold Bf; decide
  simp [rgw_bf, dec_bf, b1]
theorem drafts_21_0m (dn sn tn an pn : Nat) (hdn : dn < 9223372036854775808) (hsn : sn < 9223372036854775808) (htn : tn < 9223372036854775808) (han : an < 9223372036854775808) (hpn : pn < 9223372036854775808) : parsedI (textL ⟨21, (dn : Nat), (sn : Nat), (tn : Nat), 0, (an : Nat), 0, -1⟩) = ⟨21, (dn : Nat), (sn : Nat), (tn : Nat), 0, (an : Nat), 0, -1⟩ := by
  unfold parsedI
  rw [splitL_words _ (by rw [words_21_0m dn sn tn an pn]; simp), words_21_0m dn sn tn an pn]
  have e : opN (nmL 21) = 21 := by decide
  have v : valL [101, 113] = 0 := by decide
  simp [draftI, e, hsL, fillI, lastI, setI, valAt, val_rgw dn hdn, val_rgw sn hsn, val_rgw tn htn, val_dec an han, v, Ins.zero]
theorem join_21_1p (dn sn tn an pn : Nat) : textL ⟨21, (dn : Nat), (sn : Nat), (tn : Nat), 0, (an : Nat), 1, (pn : Nat)⟩ = joinL (nmL 21) [rgw dn, Lib.decDigits an, rgw sn, [110, 101], rgw tn, [101, 108, 115, 101], Lib.decDigits pn] := by
  have e : ¬ ((pn : Int) = -1) := by omega
  simp [textL, hsL, partsL, partL, getI, itoa_nat, joinL, rgw, e]
theorem words_21_1p (dn sn tn an pn : Nat) : wordsL (textL ⟨21, (dn : Nat), (sn : Nat), (tn : Nat), 0, (an : Nat), 1, (pn : Nat)⟩) = nmL 21 :: [rgw dn, Lib.decDigits an, rgw sn, [110, 101], rgw tn, [101, 108, 115, 101], Lib.decDigits pn] := by
  rw [join_21_1p dn sn tn an pn]
  refine words_join _ _ (by unfold Bf; decide) ?_
  have b1 : Bf [110, 101] := by unfold Bf; decide
  have b2 : Bf [101, 108, 115, 101] := by unfold Bf; decide
  simp [rgw_bf, dec_bf, b1, b2]
theorem drafts_21_1p (dn sn tn an pn : Nat) (hdn : dn < 9223372036854775808) (hsn : sn < 9223372036854775808) (htn : tn < 9223372036854775808) (han : an < 9223372036854775808) (hpn : pn < 9223372036854775808) : parsedI (textL ⟨21, (dn : Nat), (sn : Nat), (tn : Nat), 0, (an : Nat), 1, (pn : Nat)⟩) = ⟨21, (dn : Nat), (sn : Nat), (tn : Nat), 0, (an : Nat), 1, (pn : Nat)⟩ := by
  unfold parsedI
  rw [splitL_words _ (by rw [words_21_1p dn sn tn an pn]; simp), words_21_1p dn sn tn an pn]
  have e : opN (nmL 21) = 21 := by decide
  have v : valL [110, 101] = 1 := by decide
  simp [draftI, e, hsL, fillI, lastI, setI, valAt, val_rgw dn hdn, val_rgw sn hsn, val_rgw tn htn, val_dec an han, val_dec pn hpn, v, Ins.zero]
theorem join_21_1m (dn sn tn an pn : Nat) : textL ⟨21, (dn : Nat), (sn : Nat), (tn : Nat), 0, (an : Nat), 1, -1⟩ = joinL (nmL 21) [rgw dn, Lib.decDigits an, rgw sn, [110, 101], rgw tn] := by
  simp [textL, hsL, partsL, partL, getI, itoa_nat, joinL, rgw]
theorem words_21_1m (dn sn tn an pn : Nat) : wordsL (textL ⟨21, (dn : Nat), (sn : Nat), (tn : Nat), 0, (an : Nat), 1, -1⟩) = nmL 21 :: [rgw dn, Lib.decDigits an, rgw sn, [110, 101], rgw tn] := by
  rw [join_21_1m dn sn tn an pn]
  refine words_join _ _ (by unfold Bf; decide) ?_
  have b1 : Bf [110, 101] := by unfold Bf; decide
  simp [rgw_bf, dec_bf, b1]
theorem drafts_21_1m (dn sn tn an pn : Nat) (hdn : dn < 9223372036854775808) (hsn : sn < 9223372036854775808) (htn : tn < 9223372036854775808) (han : an < 9223372036854775808) (hpn : pn < 9223372036854775808) : parsedI (textL ⟨21, (dn : Nat), (sn : Nat), (tn : Nat), 0, (an : Nat), 1, -1⟩) = ⟨21, (dn : Nat), (sn : Nat), (tn : Nat), 0, (an : Nat), 1, -1⟩ := by
  unfold parsedI
  rw [splitL_words _ (by rw [words_21_1m dn sn tn an pn]; simp), words_21_1m dn sn tn an pn]
  have e : opN (nmL 21) = 21 := by decide
  have v : valL [110, 101] = 1 := by decide
  simp [draftI, e, hsL, fillI, lastI, setI, valAt, val_rgw dn hdn, val_rgw sn hsn, val_rgw tn htn, val_dec an han, v, Ins.zero]

/-- What is parsed of its text is the instruction. -/
theorem parsed_text (i : Ins) (h : rightB i 1073741824 = true) (k0 : 0 ≤ i.k) (k1 : i.k < 4294967296) : parsedI (textL i) = i := by
  obtain ⟨hd, hs, ht, hu, ha⟩ := right_regs i _ h
  obtain ⟨op, d, s, t, u, a, k, pl⟩ := i
  simp only at hd hs ht hu ha k0 k1
  rcases op_cases op with rfl | rfl | rfl | rfl | rfl | rfl | rfl | rfl | rfl | rfl | rfl | rfl | rfl | rfl | rfl | rfl | rfl | rfl | rfl | rfl | rfl | hn
  · skip
    have hr := right_1 d s t u a k pl 1073741824 hd hs ht hu ha k0 k1
    rw [h] at hr
    simp [eqI] at hr
    obtain ⟨dn, rfl⟩ : ∃ n : Nat, d = n := ⟨d.toNat, by omega⟩
    obtain ⟨sn, rfl⟩ : ∃ n : Nat, s = n := ⟨s.toNat, by omega⟩
    obtain ⟨tn, rfl⟩ : ∃ n : Nat, t = n := ⟨t.toNat, by omega⟩
    obtain ⟨un, rfl⟩ : ∃ n : Nat, u = n := ⟨u.toNat, by omega⟩
    obtain ⟨an, rfl⟩ : ∃ n : Nat, a = n := ⟨a.toNat, by omega⟩
    obtain ⟨kn, rfl⟩ : ∃ n : Nat, k = n := ⟨k.toNat, by omega⟩
    obtain rfl : sn = 0 := by omega
    obtain rfl : tn = 0 := by omega
    obtain rfl : un = 0 := by omega
    obtain rfl : an = 0 := by omega
    obtain rfl : pl = 0 := by omega
    exact drafts_1 dn kn (by omega) (by omega) (by omega)
  · skip
    have hr := right_2 d s t u a k pl 1073741824 hd hs ht hu ha k0 k1
    rw [h] at hr
    simp [eqI] at hr
    obtain ⟨dn, rfl⟩ : ∃ n : Nat, d = n := ⟨d.toNat, by omega⟩
    obtain ⟨sn, rfl⟩ : ∃ n : Nat, s = n := ⟨s.toNat, by omega⟩
    obtain ⟨tn, rfl⟩ : ∃ n : Nat, t = n := ⟨t.toNat, by omega⟩
    obtain ⟨un, rfl⟩ : ∃ n : Nat, u = n := ⟨u.toNat, by omega⟩
    obtain ⟨an, rfl⟩ : ∃ n : Nat, a = n := ⟨a.toNat, by omega⟩
    obtain ⟨kn, rfl⟩ : ∃ n : Nat, k = n := ⟨k.toNat, by omega⟩
    obtain rfl : tn = 0 := by omega
    obtain rfl : un = 0 := by omega
    obtain rfl : an = 0 := by omega
    obtain rfl : kn = 0 := by omega
    obtain rfl : pl = 0 := by omega
    exact drafts_2 dn sn (by omega) (by omega)
  · skip
    have hr := right_3 d s t u a k pl 1073741824 hd hs ht hu ha k0 k1
    rw [h] at hr
    simp [eqI] at hr
    obtain ⟨dn, rfl⟩ : ∃ n : Nat, d = n := ⟨d.toNat, by omega⟩
    obtain ⟨sn, rfl⟩ : ∃ n : Nat, s = n := ⟨s.toNat, by omega⟩
    obtain ⟨tn, rfl⟩ : ∃ n : Nat, t = n := ⟨t.toNat, by omega⟩
    obtain ⟨un, rfl⟩ : ∃ n : Nat, u = n := ⟨u.toNat, by omega⟩
    obtain ⟨an, rfl⟩ : ∃ n : Nat, a = n := ⟨a.toNat, by omega⟩
    obtain ⟨kn, rfl⟩ : ∃ n : Nat, k = n := ⟨k.toNat, by omega⟩
    obtain rfl : tn = 0 := by omega
    obtain rfl : un = 0 := by omega
    obtain rfl : an = 0 := by omega
    obtain rfl : pl = 0 := by omega
    exact drafts_3 dn sn kn (by omega) (by omega) (by omega) (by omega)
  · skip
    have hr := right_4 d s t u a k pl 1073741824 hd hs ht hu ha k0 k1
    rw [h] at hr
    simp [eqI] at hr
    obtain ⟨dn, rfl⟩ : ∃ n : Nat, d = n := ⟨d.toNat, by omega⟩
    obtain ⟨sn, rfl⟩ : ∃ n : Nat, s = n := ⟨s.toNat, by omega⟩
    obtain ⟨tn, rfl⟩ : ∃ n : Nat, t = n := ⟨t.toNat, by omega⟩
    obtain ⟨un, rfl⟩ : ∃ n : Nat, u = n := ⟨u.toNat, by omega⟩
    obtain ⟨an, rfl⟩ : ∃ n : Nat, a = n := ⟨a.toNat, by omega⟩
    obtain ⟨kn, rfl⟩ : ∃ n : Nat, k = n := ⟨k.toNat, by omega⟩
    obtain rfl : tn = 0 := by omega
    obtain rfl : un = 0 := by omega
    obtain rfl : an = 0 := by omega
    obtain rfl : pl = 0 := by omega
    exact drafts_4 dn sn kn (by omega) (by omega) (by omega) (by omega)
  · skip
    have hr := right_5 d s t u a k pl 1073741824 hd hs ht hu ha k0 k1
    rw [h] at hr
    simp [eqI] at hr
    obtain ⟨dn, rfl⟩ : ∃ n : Nat, d = n := ⟨d.toNat, by omega⟩
    obtain ⟨sn, rfl⟩ : ∃ n : Nat, s = n := ⟨s.toNat, by omega⟩
    obtain ⟨tn, rfl⟩ : ∃ n : Nat, t = n := ⟨t.toNat, by omega⟩
    obtain ⟨un, rfl⟩ : ∃ n : Nat, u = n := ⟨u.toNat, by omega⟩
    obtain ⟨an, rfl⟩ : ∃ n : Nat, a = n := ⟨a.toNat, by omega⟩
    obtain ⟨kn, rfl⟩ : ∃ n : Nat, k = n := ⟨k.toNat, by omega⟩
    obtain rfl : tn = 0 := by omega
    obtain rfl : un = 0 := by omega
    obtain rfl : an = 0 := by omega
    obtain rfl : pl = 0 := by omega
    exact drafts_5 dn sn kn (by omega) (by omega) (by omega) (by omega)
  · skip
    have hr := right_6 d s t u a k pl 1073741824 hd hs ht hu ha k0 k1
    rw [h] at hr
    simp [eqI] at hr
    obtain ⟨dn, rfl⟩ : ∃ n : Nat, d = n := ⟨d.toNat, by omega⟩
    obtain ⟨sn, rfl⟩ : ∃ n : Nat, s = n := ⟨s.toNat, by omega⟩
    obtain ⟨tn, rfl⟩ : ∃ n : Nat, t = n := ⟨t.toNat, by omega⟩
    obtain ⟨un, rfl⟩ : ∃ n : Nat, u = n := ⟨u.toNat, by omega⟩
    obtain ⟨an, rfl⟩ : ∃ n : Nat, a = n := ⟨a.toNat, by omega⟩
    obtain ⟨kn, rfl⟩ : ∃ n : Nat, k = n := ⟨k.toNat, by omega⟩
    obtain rfl : tn = 0 := by omega
    obtain rfl : un = 0 := by omega
    obtain rfl : an = 0 := by omega
    obtain rfl : pl = 0 := by omega
    exact drafts_6 dn sn kn (by omega) (by omega) (by omega) (by omega)
  · skip
    have hr := right_7 d s t u a k pl 1073741824 hd hs ht hu ha k0 k1
    rw [h] at hr
    simp [eqI] at hr
    obtain ⟨dn, rfl⟩ : ∃ n : Nat, d = n := ⟨d.toNat, by omega⟩
    obtain ⟨sn, rfl⟩ : ∃ n : Nat, s = n := ⟨s.toNat, by omega⟩
    obtain ⟨tn, rfl⟩ : ∃ n : Nat, t = n := ⟨t.toNat, by omega⟩
    obtain ⟨un, rfl⟩ : ∃ n : Nat, u = n := ⟨u.toNat, by omega⟩
    obtain ⟨an, rfl⟩ : ∃ n : Nat, a = n := ⟨a.toNat, by omega⟩
    obtain ⟨kn, rfl⟩ : ∃ n : Nat, k = n := ⟨k.toNat, by omega⟩
    obtain rfl : un = 0 := by omega
    obtain rfl : an = 0 := by omega
    obtain rfl : kn = 0 := by omega
    obtain rfl : pl = 0 := by omega
    exact drafts_7 dn sn tn (by omega) (by omega) (by omega)
  · skip
    have hr := right_8 d s t u a k pl 1073741824 hd hs ht hu ha k0 k1
    rw [h] at hr
    simp [eqI] at hr
    obtain ⟨dn, rfl⟩ : ∃ n : Nat, d = n := ⟨d.toNat, by omega⟩
    obtain ⟨sn, rfl⟩ : ∃ n : Nat, s = n := ⟨s.toNat, by omega⟩
    obtain ⟨tn, rfl⟩ : ∃ n : Nat, t = n := ⟨t.toNat, by omega⟩
    obtain ⟨un, rfl⟩ : ∃ n : Nat, u = n := ⟨u.toNat, by omega⟩
    obtain ⟨an, rfl⟩ : ∃ n : Nat, a = n := ⟨a.toNat, by omega⟩
    obtain ⟨kn, rfl⟩ : ∃ n : Nat, k = n := ⟨k.toNat, by omega⟩
    obtain rfl : dn = 0 := by omega
    obtain rfl : un = 0 := by omega
    obtain rfl : an = 0 := by omega
    obtain rfl : kn = 0 := by omega
    obtain ⟨pn, rfl⟩ : ∃ n : Nat, pl = n := ⟨pl.toNat, by omega⟩
    exact drafts_8 sn tn pn (by omega) (by omega) (by omega)
  · skip
    have hr := right_9 d s t u a k pl 1073741824 hd hs ht hu ha k0 k1
    rw [h] at hr
    simp [eqI] at hr
    obtain ⟨dn, rfl⟩ : ∃ n : Nat, d = n := ⟨d.toNat, by omega⟩
    obtain ⟨sn, rfl⟩ : ∃ n : Nat, s = n := ⟨s.toNat, by omega⟩
    obtain ⟨tn, rfl⟩ : ∃ n : Nat, t = n := ⟨t.toNat, by omega⟩
    obtain ⟨un, rfl⟩ : ∃ n : Nat, u = n := ⟨u.toNat, by omega⟩
    obtain ⟨an, rfl⟩ : ∃ n : Nat, a = n := ⟨a.toNat, by omega⟩
    obtain ⟨kn, rfl⟩ : ∃ n : Nat, k = n := ⟨k.toNat, by omega⟩
    obtain rfl : dn = 0 := by omega
    obtain rfl : un = 0 := by omega
    obtain rfl : an = 0 := by omega
    obtain rfl : kn = 0 := by omega
    obtain ⟨pn, rfl⟩ : ∃ n : Nat, pl = n := ⟨pl.toNat, by omega⟩
    exact drafts_9 sn tn pn (by omega) (by omega) (by omega)
  · skip
    have hr := right_10 d s t u a k pl 1073741824 hd hs ht hu ha k0 k1
    rw [h] at hr
    simp [eqI] at hr
    obtain ⟨dn, rfl⟩ : ∃ n : Nat, d = n := ⟨d.toNat, by omega⟩
    obtain ⟨sn, rfl⟩ : ∃ n : Nat, s = n := ⟨s.toNat, by omega⟩
    obtain ⟨tn, rfl⟩ : ∃ n : Nat, t = n := ⟨t.toNat, by omega⟩
    obtain ⟨un, rfl⟩ : ∃ n : Nat, u = n := ⟨u.toNat, by omega⟩
    obtain ⟨an, rfl⟩ : ∃ n : Nat, a = n := ⟨a.toNat, by omega⟩
    obtain ⟨kn, rfl⟩ : ∃ n : Nat, k = n := ⟨k.toNat, by omega⟩
    obtain rfl : dn = 0 := by omega
    obtain rfl : sn = 0 := by omega
    obtain rfl : tn = 0 := by omega
    obtain rfl : un = 0 := by omega
    obtain rfl : an = 0 := by omega
    obtain rfl : kn = 0 := by omega
    obtain ⟨pn, rfl⟩ : ∃ n : Nat, pl = n := ⟨pl.toNat, by omega⟩
    exact drafts_10 pn (by omega)
  · skip
    have hr := right_11 d s t u a k pl 1073741824 hd hs ht hu ha k0 k1
    rw [h] at hr
    simp [eqI] at hr
    obtain ⟨dn, rfl⟩ : ∃ n : Nat, d = n := ⟨d.toNat, by omega⟩
    obtain ⟨sn, rfl⟩ : ∃ n : Nat, s = n := ⟨s.toNat, by omega⟩
    obtain ⟨tn, rfl⟩ : ∃ n : Nat, t = n := ⟨t.toNat, by omega⟩
    obtain ⟨un, rfl⟩ : ∃ n : Nat, u = n := ⟨u.toNat, by omega⟩
    obtain ⟨an, rfl⟩ : ∃ n : Nat, a = n := ⟨a.toNat, by omega⟩
    obtain ⟨kn, rfl⟩ : ∃ n : Nat, k = n := ⟨k.toNat, by omega⟩
    obtain rfl : sn = 0 := by omega
    obtain rfl : tn = 0 := by omega
    obtain rfl : un = 0 := by omega
    obtain rfl : an = 0 := by omega
    obtain rfl : kn = 0 := by omega
    obtain rfl : pl = 0 := by omega
    exact drafts_11 dn (by omega)
  · skip
    have hr := right_12 d s t u a k pl 1073741824 hd hs ht hu ha k0 k1
    rw [h] at hr
    simp [eqI] at hr
    obtain ⟨dn, rfl⟩ : ∃ n : Nat, d = n := ⟨d.toNat, by omega⟩
    obtain ⟨sn, rfl⟩ : ∃ n : Nat, s = n := ⟨s.toNat, by omega⟩
    obtain ⟨tn, rfl⟩ : ∃ n : Nat, t = n := ⟨t.toNat, by omega⟩
    obtain ⟨un, rfl⟩ : ∃ n : Nat, u = n := ⟨u.toNat, by omega⟩
    obtain ⟨an, rfl⟩ : ∃ n : Nat, a = n := ⟨a.toNat, by omega⟩
    obtain ⟨kn, rfl⟩ : ∃ n : Nat, k = n := ⟨k.toNat, by omega⟩
    obtain rfl : dn = 0 := by omega
    obtain rfl : sn = 0 := by omega
    obtain rfl : tn = 0 := by omega
    obtain rfl : un = 0 := by omega
    obtain rfl : an = 0 := by omega
    obtain rfl : pl = 0 := by omega
    exact drafts_12 kn (by omega) (by omega)
  · skip
    have hr := right_13 d s t u a k pl 1073741824 hd hs ht hu ha k0 k1
    rw [h] at hr
    simp [eqI] at hr
    obtain ⟨dn, rfl⟩ : ∃ n : Nat, d = n := ⟨d.toNat, by omega⟩
    obtain ⟨sn, rfl⟩ : ∃ n : Nat, s = n := ⟨s.toNat, by omega⟩
    obtain ⟨tn, rfl⟩ : ∃ n : Nat, t = n := ⟨t.toNat, by omega⟩
    obtain ⟨un, rfl⟩ : ∃ n : Nat, u = n := ⟨u.toNat, by omega⟩
    obtain ⟨an, rfl⟩ : ∃ n : Nat, a = n := ⟨a.toNat, by omega⟩
    obtain ⟨kn, rfl⟩ : ∃ n : Nat, k = n := ⟨k.toNat, by omega⟩
    obtain rfl : dn = 0 := by omega
    obtain rfl : sn = 0 := by omega
    obtain rfl : tn = 0 := by omega
    obtain rfl : un = 0 := by omega
    obtain rfl : an = 0 := by omega
    obtain rfl : pl = 0 := by omega
    exact drafts_13 kn (by omega) (by omega)
  · skip
    have hr := right_16 d s t u a k pl 1073741824 hd hs ht hu ha k0 k1
    rw [h] at hr
    simp [eqI] at hr
    obtain ⟨dn, rfl⟩ : ∃ n : Nat, d = n := ⟨d.toNat, by omega⟩
    obtain ⟨sn, rfl⟩ : ∃ n : Nat, s = n := ⟨s.toNat, by omega⟩
    obtain ⟨tn, rfl⟩ : ∃ n : Nat, t = n := ⟨t.toNat, by omega⟩
    obtain ⟨un, rfl⟩ : ∃ n : Nat, u = n := ⟨u.toNat, by omega⟩
    obtain ⟨an, rfl⟩ : ∃ n : Nat, a = n := ⟨a.toNat, by omega⟩
    obtain ⟨kn, rfl⟩ : ∃ n : Nat, k = n := ⟨k.toNat, by omega⟩
    obtain rfl : tn = 0 := by omega
    obtain rfl : un = 0 := by omega
    obtain rfl : kn = 0 := by omega
    obtain rfl : pl = 0 := by omega
    exact drafts_16 dn sn an (by omega) (by omega) (by omega)
  · skip
    have hr := right_17 d s t u a k pl 1073741824 hd hs ht hu ha k0 k1
    rw [h] at hr
    simp [eqI] at hr
    obtain ⟨dn, rfl⟩ : ∃ n : Nat, d = n := ⟨d.toNat, by omega⟩
    obtain ⟨sn, rfl⟩ : ∃ n : Nat, s = n := ⟨s.toNat, by omega⟩
    obtain ⟨tn, rfl⟩ : ∃ n : Nat, t = n := ⟨t.toNat, by omega⟩
    obtain ⟨un, rfl⟩ : ∃ n : Nat, u = n := ⟨u.toNat, by omega⟩
    obtain ⟨an, rfl⟩ : ∃ n : Nat, a = n := ⟨a.toNat, by omega⟩
    obtain ⟨kn, rfl⟩ : ∃ n : Nat, k = n := ⟨k.toNat, by omega⟩
    obtain rfl : dn = 0 := by omega
    obtain rfl : un = 0 := by omega
    obtain rfl : kn = 0 := by omega
    obtain rfl : pl = 0 := by omega
    exact drafts_17 sn tn an (by omega) (by omega) (by omega)
  · skip
    have hr := right_18 d s t u a k pl 1073741824 hd hs ht hu ha k0 k1
    rw [h] at hr
    simp [eqI] at hr
    obtain ⟨dn, rfl⟩ : ∃ n : Nat, d = n := ⟨d.toNat, by omega⟩
    obtain ⟨sn, rfl⟩ : ∃ n : Nat, s = n := ⟨s.toNat, by omega⟩
    obtain ⟨tn, rfl⟩ : ∃ n : Nat, t = n := ⟨t.toNat, by omega⟩
    obtain ⟨un, rfl⟩ : ∃ n : Nat, u = n := ⟨u.toNat, by omega⟩
    obtain ⟨an, rfl⟩ : ∃ n : Nat, a = n := ⟨a.toNat, by omega⟩
    obtain ⟨kn, rfl⟩ : ∃ n : Nat, k = n := ⟨k.toNat, by omega⟩
    obtain rfl : un = 0 := by omega
    obtain rfl : kn = 0 := by omega
    obtain rfl : pl = 0 := by omega
    exact drafts_18 dn sn tn an (by omega) (by omega) (by omega) (by omega)
  · skip
    have hr := right_19 d s t u a k pl 1073741824 hd hs ht hu ha k0 k1
    rw [h] at hr
    simp [eqI] at hr
    obtain ⟨dn, rfl⟩ : ∃ n : Nat, d = n := ⟨d.toNat, by omega⟩
    obtain ⟨sn, rfl⟩ : ∃ n : Nat, s = n := ⟨s.toNat, by omega⟩
    obtain ⟨tn, rfl⟩ : ∃ n : Nat, t = n := ⟨t.toNat, by omega⟩
    obtain ⟨un, rfl⟩ : ∃ n : Nat, u = n := ⟨u.toNat, by omega⟩
    obtain ⟨an, rfl⟩ : ∃ n : Nat, a = n := ⟨a.toNat, by omega⟩
    obtain ⟨kn, rfl⟩ : ∃ n : Nat, k = n := ⟨k.toNat, by omega⟩
    obtain rfl : kn = 0 := by omega
    obtain rfl : pl = 0 := by omega
    exact drafts_19 dn sn tn un an (by omega) (by omega) (by omega) (by omega) (by omega)
  · skip
    have hr := right_20 d s t u a k pl 1073741824 hd hs ht hu ha k0 k1
    rw [h] at hr
    simp [eqI] at hr
    obtain ⟨dn, rfl⟩ : ∃ n : Nat, d = n := ⟨d.toNat, by omega⟩
    obtain ⟨sn, rfl⟩ : ∃ n : Nat, s = n := ⟨s.toNat, by omega⟩
    obtain ⟨tn, rfl⟩ : ∃ n : Nat, t = n := ⟨t.toNat, by omega⟩
    obtain ⟨un, rfl⟩ : ∃ n : Nat, u = n := ⟨u.toNat, by omega⟩
    obtain ⟨an, rfl⟩ : ∃ n : Nat, a = n := ⟨a.toNat, by omega⟩
    obtain ⟨kn, rfl⟩ : ∃ n : Nat, k = n := ⟨k.toNat, by omega⟩
    obtain rfl : tn = 0 := by omega
    obtain rfl : un = 0 := by omega
    obtain rfl : pl = 0 := by omega
    exact drafts_20 dn sn an kn (by omega) (by omega) (by omega) (by omega) (by omega)
  · skip
    have hr := right_21 d s t u a k pl 1073741824 hd hs ht hu ha k0 k1
    rw [h] at hr
    simp [eqI] at hr
    obtain ⟨dn, rfl⟩ : ∃ n : Nat, d = n := ⟨d.toNat, by omega⟩
    obtain ⟨sn, rfl⟩ : ∃ n : Nat, s = n := ⟨s.toNat, by omega⟩
    obtain ⟨tn, rfl⟩ : ∃ n : Nat, t = n := ⟨t.toNat, by omega⟩
    obtain ⟨un, rfl⟩ : ∃ n : Nat, u = n := ⟨u.toNat, by omega⟩
    obtain ⟨an, rfl⟩ : ∃ n : Nat, a = n := ⟨a.toNat, by omega⟩
    obtain ⟨kn, rfl⟩ : ∃ n : Nat, k = n := ⟨k.toNat, by omega⟩
    obtain rfl : un = 0 := by omega
    by_cases hm : pl = -1
    · subst hm
      by_cases hk : kn = 0
      · subst hk; exact drafts_21_0m dn sn tn an 0 (by omega) (by omega) (by omega) (by omega) (by omega)
      · obtain rfl : kn = 1 := by omega
        exact drafts_21_1m dn sn tn an 0 (by omega) (by omega) (by omega) (by omega) (by omega)
    · obtain ⟨pn, rfl⟩ : ∃ n : Nat, pl = n := ⟨pl.toNat, by omega⟩
      by_cases hk : kn = 0
      · subst hk; exact drafts_21_0p dn sn tn an pn (by omega) (by omega) (by omega) (by omega) (by omega)
      · obtain rfl : kn = 1 := by omega
        exact drafts_21_1p dn sn tn an pn (by omega) (by omega) (by omega) (by omega) (by omega)
  · skip
    have hr := right_22 d s t u a k pl 1073741824 hd hs ht hu ha k0 k1
    rw [h] at hr
    simp [eqI] at hr
    obtain ⟨dn, rfl⟩ : ∃ n : Nat, d = n := ⟨d.toNat, by omega⟩
    obtain ⟨sn, rfl⟩ : ∃ n : Nat, s = n := ⟨s.toNat, by omega⟩
    obtain ⟨tn, rfl⟩ : ∃ n : Nat, t = n := ⟨t.toNat, by omega⟩
    obtain ⟨un, rfl⟩ : ∃ n : Nat, u = n := ⟨u.toNat, by omega⟩
    obtain ⟨an, rfl⟩ : ∃ n : Nat, a = n := ⟨a.toNat, by omega⟩
    obtain ⟨kn, rfl⟩ : ∃ n : Nat, k = n := ⟨k.toNat, by omega⟩
    obtain rfl : sn = 0 := by omega
    obtain rfl : tn = 0 := by omega
    obtain rfl : un = 0 := by omega
    obtain rfl : an = 0 := by omega
    obtain rfl : kn = 0 := by omega
    obtain rfl : pl = 0 := by omega
    exact drafts_22 dn (by omega)
  · skip
    have hr := right_23 d s t u a k pl 1073741824 hd hs ht hu ha k0 k1
    rw [h] at hr
    simp [eqI] at hr
    obtain ⟨dn, rfl⟩ : ∃ n : Nat, d = n := ⟨d.toNat, by omega⟩
    obtain ⟨sn, rfl⟩ : ∃ n : Nat, s = n := ⟨s.toNat, by omega⟩
    obtain ⟨tn, rfl⟩ : ∃ n : Nat, t = n := ⟨t.toNat, by omega⟩
    obtain ⟨un, rfl⟩ : ∃ n : Nat, u = n := ⟨u.toNat, by omega⟩
    obtain ⟨an, rfl⟩ : ∃ n : Nat, a = n := ⟨a.toNat, by omega⟩
    obtain ⟨kn, rfl⟩ : ∃ n : Nat, k = n := ⟨k.toNat, by omega⟩
    obtain rfl : dn = 0 := by omega
    obtain rfl : tn = 0 := by omega
    obtain rfl : un = 0 := by omega
    obtain rfl : an = 0 := by omega
    obtain rfl : kn = 0 := by omega
    obtain rfl : pl = 0 := by omega
    exact drafts_23 sn (by omega)
  · exfalso
    unfold rightB at h
    simp only [(hs_none hn).1] at h
    cases h
theorem parse_text (i : Ins) (h : rightB i 1073741824 = true) (k0 : 0 ≤ i.k) (k1 : i.k < 4294967296) : parseB (textL i) = true ∧ parsedI (textL i) = i := by
  have e := parsed_text i h k0 k1
  refine ⟨?_, e⟩
  unfold parseB
  rw [e, h]
  simp
/-- Unlike right instructions have unlike texts. -/
theorem text_inj (i j : Ins) (hi : rightB i 1073741824 = true) (hj : rightB j 1073741824 = true) (i0 : 0 ≤ i.k) (i1 : i.k < 4294967296) (j0 : 0 ≤ j.k) (j1 : j.k < 4294967296) (h : textL i = textL j) : i = j := by
  rw [← parsed_text i hi i0 i1, ← parsed_text j hj j0 j1, h]
end Go.Proofs.YteohnkilchkhkaaGreatDoor
