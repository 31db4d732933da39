/- Lines: an instruction's line is that instruction, with its place's name. No walk stands here. -/
import Derived.Test.YteohnkilchkhkaaGreatDoorAsmM
namespace Go.Proofs.YteohnkilchkhkaaGreatDoor
set_option linter.unusedVariables false

-- the name of an op
theorem op_of_name (op : Int) (h : hsL op ≠ []) : opTo (nmL op) 23 = op := by
  rcases op_cases op with rfl | rfl | rfl | rfl | rfl | rfl | rfl | rfl | rfl | rfl | rfl | rfl | rfl | rfl | rfl | rfl | rfl | rfl | rfl | rfl | rfl | hn
  all_goals first | decide | exact absurd (hs_none hn).1 h
theorem right_hs {i : Ins} {p : Int} (h : rightB i p = true) : hsL i.op ≠ [] := by
  unfold rightB at h
  simp only [Bool.and_eq_true, Bool.not_eq_true', List.isEmpty_eq_false_iff] at h
  exact h.1
theorem nm_inj {i j : Ins} {p q : Int} (hi : rightB i p = true) (hj : rightB j q = true) (h : nmL i.op = nmL j.op) : i.op = j.op := by
  rw [← op_of_name i.op (right_hs hi), h, op_of_name j.op (right_hs hj)]
theorem nm_bf (op : Int) : Bf (nmL op) := by
  rcases op_cases op with rfl | rfl | rfl | rfl | rfl | rfl | rfl | rfl | rfl | rfl | rfl | rfl | rfl | rfl | rfl | rfl | rfl | rfl | rfl | rfl | rfl | hn
  all_goals first | (unfold Bf; decide) | (rw [(hs_none hn).2]; unfold Bf; simp)

/-- Right with few places: right with more. -/
theorem right_more {i : Ins} {p q : Int} (hq : p ≤ q) (h : rightB i p = true) : rightB i q = true := by
  unfold rightB at *
  simp only [Bool.and_eq_true, List.all_eq_true] at *
  refine ⟨h.1, fun c hc => ?_, h.2.2⟩
  have := h.2.1 c hc
  unfold inB endI at *
  simp only [Bool.and_eq_true, decide_eq_true_eq] at *
  refine ⟨this.1, ?_⟩
  have h2 := this.2
  generalize (c.toNat : Int) = x at *
  generalize getI i x = y at *
  repeat' split at h2
  all_goals first | (simp_all; done) | (simp_all; omega)

theorem goes_cases {i : Ins} (h : goesB i = true) : i.op = 8 ∨ i.op = 9 ∨ i.op = 10 ∨ (i.op = 21 ∧ 0 ≤ i.pl) := by
  unfold goesB at h
  simp only [Bool.or_eq_true, Bool.and_eq_true, decide_eq_true_eq] at h
  omega
/-- The place of a right instruction that goes to one. -/
theorem goes_pl {i : Ins} {p : Int} (hr : rightB i p = true) (h : goesB i = true) : 0 ≤ i.pl ∧ i.pl < p := by
  obtain ⟨op, d, s, t, u, a, k, pl⟩ := i
  unfold rightB at hr
  rcases goes_cases h with e | e | e | ⟨e, e2⟩ <;> (simp only at e; subst e; simp [hsL, inB, lowI, endI, getI] at hr; simp only at *)
  · exact hr.1.2.2
  · exact hr.1.2.2
  · exact hr.1
  · have := hr.1.2.2.2.2.2.2
    split at this <;> omega

theorem headI_pl (i : Ins) (h : goesB i = true) (p : Int) : headI { i with pl := p } = headI i := by
  obtain ⟨op, d, s, t, u, a, k, pl⟩ := i
  rcases goes_cases h with e | e | e | ⟨e, e2⟩ <;> (simp only at e; subst e; simp [headI, hsL, partsL, partL, getI])
/-- The text of an instruction that goes to a place. -/
theorem text_goes (i : Ins) (h : goesB i = true) (h0 : 0 ≤ i.pl) : textL i = headI i ++ Lib.itoa i.pl := by
  obtain ⟨op, d, s, t, u, a, k, pl⟩ := i
  rcases goes_cases h with e | e | e | ⟨e, e2⟩
  · simp only at e; subst e; simp [textL, headI, hsL, partsL, partL, getI]
  · simp only at e; subst e; simp [textL, headI, hsL, partsL, partL, getI]
  · simp only at e; subst e; simp [textL, headI, hsL, partsL, partL, getI]
  · simp only at e e2
    subst e
    have hne : pl ≠ -1 := by omega
    simp [textL, headI, hsL, partsL, partL, getI, hne]
theorem headI_end (i : Ins) : ∃ a, headI i = a ++ [32] := by
  unfold headI
  split
  · exact ⟨nmL i.op ++ partsL i (hsL i.op).dropLast ++ [32, 101, 108, 115, 101], by simp⟩
  · exact ⟨nmL i.op ++ partsL i (hsL i.op).dropLast, rfl⟩
theorem right_zero {i : Ins} {p q : Int} (hr : rightB i p = true) (h : goesB i = true) (hq : 0 < q) : rightB { i with pl := 0 } q = true := by
  obtain ⟨op, d, s, t, u, a, k, pl⟩ := i
  unfold rightB at *
  rcases goes_cases h with e | e | e | ⟨e, e2⟩ <;> (simp only at e; subst e; simp [hsL, inB, lowI, endI, getI, isZ, clr, setI] at hr ⊢)
  · refine ⟨⟨hr.1.1, hr.1.2.1, hq⟩, hr.2⟩
  · refine ⟨⟨hr.1.1, hr.1.2.1, hq⟩, hr.2⟩
  · refine ⟨hq, hr.2⟩
  · obtain ⟨⟨q1, q2, q3, q4, q5, q6⟩, q7⟩ := hr
    refine ⟨⟨q1, q2, q3, q4, q5, ?_⟩, q7⟩
    split <;> omega
theorem goes_zero {i : Ins} (h : goesB i = true) : goesB { i with pl := 0 } = true := by
  unfold goesB at *
  simp only [Bool.or_eq_true, Bool.and_eq_true, decide_eq_true_eq] at *
  omega
theorem itoa_zero : Lib.itoa 0 = [48] := by
  rw [show (0 : Int) = ((0 : Nat) : Int) from rfl, itoa_nat, Lib.decDigits, dif_pos (by decide)]
  rfl

/-- The line of an instruction that goes to a name. -/
theorem line_goes (i : Ins) {p : Int} (hr : rightB i p = true) (hp : p ≤ 1073741824) (k0 : 0 ≤ i.k) (k1 : i.k < 4294967296) (h : goesB i = true) (nm : List UInt8) (hn : nameB nm = true) :
    lineL (headI i ++ nm) = some ({ i with pl := 0 }, nm) := by
  obtain ⟨a, ha⟩ := headI_end i
  have hs : headI i ++ nm = a ++ 32 :: nm := by rw [ha]; simp
  have h1 : lastW (headI i ++ nm) = nm := by rw [hs]; exact lastW_cat a nm (name_bf hn)
  have h2 : headW (headI i ++ nm) = headI i := by rw [hs, headW_cat a nm (name_bf hn), ha]
  have h3 : prs (headI i ++ [48]) = some { i with pl := 0 } := by
    rw [prs_iff]
    refine ⟨right_zero hr h (by decide), k0, k1, ?_⟩
    rw [text_goes _ (goes_zero h) (Int.le_refl 0), headI_pl i h 0]
    show headI i ++ Lib.itoa 0 = _
    rw [itoa_zero]
  unfold lineL
  rw [h2, h3, h1]
  simp only
  rw [if_pos ⟨goes_zero h, hn⟩]

theorem last_blank : ∀ s : List UInt8, Bf s ∨ ∃ a b, Bf b ∧ s = a ++ 32 :: b
  | [] => .inl (by unfold Bf; simp)
  | c :: r => by
    rcases last_blank r with h | ⟨a, b, hb, rfl⟩
    · by_cases hc : c = 32
      · exact .inr ⟨[], r, h, by rw [hc]; rfl⟩
      · refine .inl fun x hx => ?_
        rcases List.mem_cons.1 hx with rfl | hx
        · exact hc
        · exact h x hx
    · exact .inr ⟨c :: a, b, hb, rfl⟩

/-- A text begins with its op's name, and goes on behind a blank. -/
theorem text_first {i : Ins} {p : Int} (hr : rightB i p = true) : ∃ r, textL i = nmL i.op ++ 32 :: r := by
  have hh := right_hs hr
  obtain ⟨op, d, s, t, u, a, k, pl⟩ := i
  simp only at hh
  rcases op_cases op with rfl | rfl | rfl | rfl | rfl | rfl | rfl | rfl | rfl | rfl | rfl | rfl | rfl | rfl | rfl | rfl | rfl | rfl | rfl | rfl | rfl | hn
  all_goals first
    | exact absurd (hs_none hn).1 hh
    | (unfold textL partsL; simp only [hsL]; simp [partL, getI])
theorem text_head {i : Ins} {p : Int} (hr : rightB i p = true) : (wordsL (textL i)).head? = some (nmL i.op) := by
  obtain ⟨r, h⟩ := text_first hr
  rw [h, wordsL_cat, wordsL_one _ (nm_bf _)]
  rfl
theorem text_count {i : Ins} {p : Int} (hr : rightB i p = true) (hp : p ≤ 1073741824) (k0 : 0 ≤ i.k) (k1 : i.k < 4294967296) (h : i.op = 21) : (i.pl = -1 ∧ (wordsL (textL i)).length = 6) ∨ (0 ≤ i.pl ∧ (wordsL (textL i)).length = 8) := by
  obtain ⟨hd, hs, ht, hu, ha⟩ := right_regs i _ hr
  obtain ⟨op, d, s, t, u, a, k, pl⟩ := i
  simp only at hd hs ht hu ha k0 k1 h
  subst h
  have hr2 := right_more hp hr
  have hr3 := right_21 d s t u a k pl 1073741824 hd hs ht hu ha k0 k1
  rw [hr2] at hr3
  simp [eqI] at hr3
  obtain ⟨dn, rfl⟩ : ∃ n : Nat, d = n := ⟨d.toNat, by omega⟩
  obtain ⟨sn, rfl⟩ : ∃ n : Nat, s = n := ⟨s.toNat, by omega⟩
  obtain ⟨tn, rfl⟩ : ∃ n : Nat, t = n := ⟨t.toNat, by omega⟩
  obtain ⟨un, rfl⟩ : ∃ n : Nat, u = n := ⟨u.toNat, by omega⟩
  obtain ⟨an, rfl⟩ : ∃ n : Nat, a = n := ⟨a.toNat, by omega⟩
  obtain ⟨kn, rfl⟩ : ∃ n : Nat, k = n := ⟨k.toNat, by omega⟩
  obtain rfl : un = 0 := by omega
  by_cases hm : pl = -1
  · subst hm
    refine .inl ⟨rfl, ?_⟩
    by_cases hk : kn = 0
    · subst hk
      exact congrArg List.length (words_21_0m dn sn tn an 0)
    · obtain rfl : kn = 1 := by omega
      exact congrArg List.length (words_21_1m dn sn tn an 0)
  · obtain ⟨pn, rfl⟩ : ∃ n : Nat, pl = n := ⟨pl.toNat, by omega⟩
    refine .inr ⟨by simp, ?_⟩
    by_cases hk : kn = 0
    · subst hk
      exact congrArg List.length (words_21_0p dn sn tn an pn)
    · obtain rfl : kn = 1 := by omega
      exact congrArg List.length (words_21_1p dn sn tn an pn)

/-- The line of an instruction that goes nowhere. -/
theorem line_stay (i : Ins) {p : Int} (hr : rightB i p = true) (hp : p ≤ 1073741824) (k0 : 0 ≤ i.k) (k1 : i.k < 4294967296) (h : goesB i = false) : lineL (textL i) = some (i, []) := by
  have hr2 := right_more hp hr
  have h0 : prs (textL i) = some i := (prs_iff _ _).2 ⟨hr2, k0, k1, rfl⟩
  unfold lineL
  cases hj : prs (headW (textL i) ++ [48]) with
  | none => simp only [h0, h]; rfl
  | some j =>
    simp only
    rw [if_neg, h0]
    · simp only [h]; rfl
    · rintro ⟨hg, -⟩
      obtain ⟨jr, j0, j1, jt⟩ := (prs_iff _ _).1 hj
      rcases last_blank (textL i) with hb | ⟨a, b, hb, hs⟩
      · obtain ⟨r, hr3⟩ := text_first hr
        rw [hr3] at hb
        exact hb 32 (by simp) rfl
      · rw [hs, headW_cat a b hb] at jt
        have jt2 : textL j = a ++ 32 :: [48] := by rw [jt]; simp
        have w1 : wordsL (textL i) = wordsL a ++ [b] := by rw [hs, wordsL_cat, wordsL_one b hb]
        have w2 : wordsL (textL j) = wordsL a ++ [[48]] := by rw [jt2, wordsL_cat, wordsL_one [48] (by simp)]
        have e1 := text_head hr
        have e2 := text_head jr
        rw [w1] at e1
        rw [w2] at e2
        have hop : i.op = j.op := by
          refine nm_inj hr jr ?_
          cases hw : wordsL a with
          | nil => exact absurd hw (wordsL_ne a)
          | cons x y =>
            rw [hw] at e1 e2
            simp at e1 e2
            rw [← e1, ← e2]
        rcases goes_cases hg with e | e | e | ⟨e, e3⟩
        · unfold goesB at h; rw [hop, e] at h; revert h; simp
        · unfold goesB at h; rw [hop, e] at h; revert h; simp
        · unfold goesB at h; rw [hop, e] at h; revert h; simp
        · have c1 := text_count hr hp k0 k1 (hop.trans e)
          have c2 := text_count jr (Int.le_refl _) j0 j1 e
          rw [w1] at c1
          rw [w2] at c2
          simp only [List.length_append, List.length_cons, List.length_nil] at c1 c2
          have : ¬ 0 ≤ i.pl := by
            unfold goesB at h
            rw [hop, e] at h
            simp at h
            omega
          omega

/-- A line of an instruction is no label's. -/
theorem lb_no {s a b : List UInt8} (h : s = a ++ 32 :: b) (hb : b ≠ []) : lbB s = false := by
  rw [Bool.eq_false_iff]
  intro hl
  unfold lbB at hl
  simp only [Bool.and_eq_true] at hl
  have hn := name_bf hl.2.2
  refine hn 32 ?_ rfl
  rw [h, List.dropLast_append_of_ne_nil (by simp)]
  cases b with
  | nil => exact absurd rfl hb
  | cons x y => simp
theorem lb_yes {s : List UInt8} (h : nameB s = true) : lbB (s ++ [58]) = true := by
  unfold lbB
  simp [h]
end Go.Proofs.YteohnkilchkhkaaGreatDoor
