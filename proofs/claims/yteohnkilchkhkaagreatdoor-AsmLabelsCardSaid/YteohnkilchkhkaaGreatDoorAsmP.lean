/- The lines of a program's own text; labels that nothing goes to, ahead of any of them. No walk stands here. -/
import Derived.Test.YteohnkilchkhkaaGreatDoorAsmO
namespace Go.Proofs.YteohnkilchkhkaaGreatDoor
set_option linter.unusedVariables false

theorem itoa_nn {n : Int} (h : 0 ≤ n) : Lib.itoa n = Lib.decDigits n.toNat := by unfold Lib.itoa; rw [if_neg (by omega)]
theorem itoa_inj {m n : Int} (hm : 0 ≤ m) (hn : 0 ≤ n) (h : Lib.itoa m = Lib.itoa n) : m = n := by
  rw [itoa_nn hm, itoa_nn hn] at h
  have h1 := numFrom_dec m.toNat
  rw [h, numFrom_dec n.toNat] at h1
  injection h1 with h1
  omega
theorem itoa_digit {n : Int} (h : 0 ≤ n) : ∀ c ∈ Lib.itoa n, digB c = true := by
  rw [itoa_nn h]
  intro c hc
  have := dec_digit n.toNat c hc
  unfold digB
  simp [this]
theorem itoa_nl (n : Int) : Nl (Lib.itoa n) := by
  have key : ∀ k : Nat, Nl (Lib.decDigits k) := fun k c hc e => by
    have := dec_digit k c hc
    rw [e] at this
    revert this
    decide
  unfold Lib.itoa
  split
  · intro c hc
    rcases List.mem_cons.1 hc with rfl | hc
    · decide
    · exact key _ c hc
  · exact key _

theorem name_place {n : Int} (h0 : 0 ≤ n) (h1 : n < 64) : nameB (108 :: Lib.itoa n) = true := by
  have hd := itoa_digit h0
  have hl : (Lib.itoa n).length ≤ 2 := by
    rw [itoa_nn h0]
    exact dec_len10 1 n.toNat (by omega)
  unfold nameB
  simp only [Bool.and_eq_true, decide_eq_true_eq, List.all_eq_true, List.length_cons]
  refine ⟨by omega, by omega, (show lowB 108 = true by decide), fun c hc => ?_⟩
  rcases List.mem_cons.1 hc with rfl | hc
  · decide
  · simp [hd c hc]
theorem name_label (c : Prg) {k : Int} (h0 : 0 ≤ k) (h1 : k < 64) : nameB (labelL c k) = true := by
  unfold labelL
  split
  · decide
  · split
    · decide
    · exact name_place h0 h1
theorem labs_cases {c : Prg} {k : Int} {x : List UInt8} (h : x ∈ labsAt c k) : (x = lockW ∧ k = c.lo) ∨ (x = unlockW ∧ k = c.un) ∨ (x = 108 :: Lib.itoa k ∧ k ≠ c.lo ∧ k ≠ c.un) := by
  unfold labsAt at h
  rcases List.mem_append.1 h with h | h
  · split at h
    · exact .inl ⟨by simpa using h, by assumption⟩
    · simp at h
  · rcases List.mem_append.1 h with h | h
    · split at h
      · exact .inr (.inl ⟨by simpa using h, by assumption⟩)
      · simp at h
    · split at h
      · rename_i hw
        refine .inr (.inr ⟨?_, hw.2⟩)
        have : x = labelL c k := by simpa using h
        rw [this]
        unfold labelL
        rw [if_neg hw.2.1, if_neg hw.2.2]
      · simp at h
theorem labs_name {c : Prg} {k : Int} {x : List UInt8} (h : x ∈ labsAt c k) (h0 : 0 ≤ k) (h1 : k < 64) : nameB x = true := by
  rcases labs_cases h with ⟨rfl, -⟩ | ⟨rfl, -⟩ | ⟨rfl, -⟩
  · decide
  · decide
  · exact name_place h0 h1
theorem lock_no {n : Int} (h : 0 ≤ n) : lockW ≠ 108 :: Lib.itoa n := by
  intro e
  unfold lockW at e
  injection e with _ e
  have := itoa_digit h 111 (by rw [← e]; simp)
  revert this
  decide
theorem unlock_no (n : Int) : unlockW ≠ 108 :: Lib.itoa n := by
  intro e
  unfold unlockW at e
  injection e with e _
  revert e
  decide
theorem labs_place {c : Prg} {j k : Int} {x : List UInt8} (j0 : 0 ≤ j) (k0 : 0 ≤ k) (hj : x ∈ labsAt c j) (hk : x ∈ labsAt c k) : j = k := by
  rcases labs_cases hj with ⟨e1, h1⟩ | ⟨e1, h1⟩ | ⟨e1, h1⟩ <;> rcases labs_cases hk with ⟨e2, h2⟩ | ⟨e2, h2⟩ | ⟨e2, h2⟩
  · omega
  · rw [e1] at e2; exact absurd e2 (by decide)
  · rw [e1] at e2; exact absurd e2 (lock_no k0)
  · rw [e1] at e2; exact absurd e2 (by decide)
  · omega
  · rw [e1] at e2; exact absurd e2 (unlock_no k)
  · rw [e2] at e1; exact absurd e1 (lock_no j0)
  · rw [e2] at e1; exact absurd e1 (unlock_no j)
  · rw [e1] at e2
    injection e2 with _ e2
    exact itoa_inj j0 k0 e2
theorem labs_nodup (c : Prg) (k : Int) : (labsAt c k).Nodup := by
  have hne : lockW ≠ unlockW := by decide
  unfold labsAt
  by_cases h1 : k = c.lo
  · by_cases h2 : k = c.un
    · rw [if_pos h1, if_pos h2, if_neg (fun h => h.2.1 h1)]; simp [hne]
    · rw [if_pos h1, if_neg h2, if_neg (fun h => h.2.1 h1)]; simp
  · by_cases h2 : k = c.un
    · rw [if_neg h1, if_pos h2, if_neg (fun h => h.2.2 h2)]; simp
    · rw [if_neg h1, if_neg h2]; split <;> simp
theorem labs_len (c : Prg) (k : Int) : (labsAt c k).length ≤ 3 := by
  unfold labsAt
  simp only [List.length_append]
  repeat' split
  all_goals simp

/-- The lines of a program, as what they are. -/
def toksFrom (c : Prg) : List Ins → Int → List Tok
  | [], _ => []
  | i :: more, k => (labsAt c k).map Tok.lab ++ Tok.ins (rowI c i).1 (rowI c i).2 (insLine c i) :: toksFrom c more (k + 1)
theorem toks_text (c : Prg) : ∀ (l : List Ins) (k : Int), (toksFrom c l k).map Tok.text = linesFrom c l k
  | [], _ => rfl
  | i :: m, k => by
    simp only [toksFrom, linesFrom, List.map_append, List.map_map, List.map_cons, toks_text c m (k + 1)]
    rfl

theorem names_app : ∀ (a b : List Tok), namesT (a ++ b) = namesT a ++ namesT b
  | [], b => rfl
  | .lab nm :: a, b => by simp [namesT, names_app a b]
  | .ins _ _ _ :: a, b => by simp [namesT, names_app a b]
theorem names_lab : ∀ l : List (List UInt8), namesT (l.map Tok.lab) = l
  | [] => rfl
  | x :: l => by simp [namesT, names_lab l]
theorem names_toks (c : Prg) (i : Ins) (m : List Ins) (k : Int) : namesT (toksFrom c (i :: m) k) = labsAt c k ++ namesT (toksFrom c m (k + 1)) := by
  rw [toksFrom, names_app, names_lab]
  rfl
theorem names_mem (c : Prg) : ∀ (l : List Ins) (k : Int) (x : List UInt8), x ∈ namesT (toksFrom c l k) → ∃ j, k ≤ j ∧ j < k + l.length ∧ x ∈ labsAt c j
  | [], k, x, h => by simp [toksFrom, namesT] at h
  | i :: m, k, x, h => by
    rw [names_toks] at h
    rcases List.mem_append.1 h with h | h
    · exact ⟨k, Int.le_refl _, by simp; omega, h⟩
    · obtain ⟨j, h1, h2, h3⟩ := names_mem c m (k + 1) x h
      exact ⟨j, by omega, by simp; omega, h3⟩
theorem names_nodup (c : Prg) : ∀ (l : List Ins) (k : Int), 0 ≤ k → (namesT (toksFrom c l k)).Nodup
  | [], k, _ => by simp [toksFrom, namesT]
  | i :: m, k, h => by
    rw [names_toks, List.nodup_append]
    refine ⟨labs_nodup c k, names_nodup c m (k + 1) (by omega), fun x hx y hy e => ?_⟩
    subst e
    obtain ⟨j, h1, h2, h3⟩ := names_mem c m (k + 1) x hy
    have := labs_place h (by omega) hx h3
    omega

theorem labsT_app : ∀ (a b : List Tok) (k : Int), labsT (a ++ b) k = labsT a k ++ labsT b (k + (rowsT a 0).length)
  | [], b, k => by simp [labsT, rowsT]
  | .lab nm :: a, b, k => by
    have : (rowsT a (0 + 1)).length = (rowsT a 0).length := rows_len a _ _
    simp only [List.cons_append, labsT, rowsT, labsT_app a b k, this]
  | .ins _ _ _ :: a, b, k => by
    have : (rowsT a (0 + 1)).length = (rowsT a 0).length := rows_len a _ _
    simp only [List.cons_append, labsT, rowsT, labsT_app a b (k + 1), List.length_cons, this]
    congr 2
    simp
    omega
where
  rows_len : ∀ (a : List Tok) (m n : Int), (rowsT a m).length = (rowsT a n).length
    | [], _, _ => rfl
    | .lab _ :: a, m, n => by simp only [rowsT]; exact rows_len a _ _
    | .ins _ _ _ :: a, m, n => by simp only [rowsT, List.length_cons]; rw [rows_len a _ _]
theorem rows_lab (l : List (List UInt8)) (n : Int) : rowsT (l.map Tok.lab) n = [] := by
  induction l generalizing n with
  | nil => rfl
  | cons x l ih => simp only [List.map_cons, rowsT]; exact ih _
theorem labsT_lab (l : List (List UInt8)) (k : Int) : labsT (l.map Tok.lab) k = l.map fun x => (x, k) := by
  induction l with
  | nil => rfl
  | cons x l ih => simp only [List.map_cons, labsT, ih]
theorem labsT_toks (c : Prg) (i : Ins) (m : List Ins) (k q : Int) : labsT (toksFrom c (i :: m) k) q = (labsAt c k).map (fun x => (x, q)) ++ labsT (toksFrom c m (k + 1)) (q + 1) := by
  rw [toksFrom, labsT_app, rows_lab, labsT_lab]
  simp [labsT]
theorem labs_mem (c : Prg) : ∀ (l : List Ins) (k j : Int) (x : List UInt8), k ≤ j → j < k + l.length → x ∈ labsAt c j → (x, j) ∈ labsT (toksFrom c l k) k
  | [], k, j, x, h1, h2, _ => by simp at h2; omega
  | i :: m, k, j, x, h1, h2, h => by
    rw [labsT_toks]
    by_cases e : j = k
    · subst e
      exact List.mem_append.2 (.inl (List.mem_map.2 ⟨x, h, rfl⟩))
    · exact List.mem_append.2 (.inr (labs_mem c m (k + 1) j x (by omega) (by simp at h2; omega) h))
theorem rowsT_app : ∀ (a b : List Tok) (n : Int), rowsT (a ++ b) n = rowsT a n ++ rowsT b (n + a.length)
  | [], b, n => by simp [rowsT]
  | .lab nm :: a, b, n => by
    simp only [List.cons_append, rowsT, rowsT_app a b (n + 1), List.length_cons]
    congr 2
    simp
    omega
  | .ins _ _ _ :: a, b, n => by
    simp only [List.cons_append, rowsT, rowsT_app a b (n + 1), List.length_cons]
    congr 3
    simp
    omega
theorem rows_toks (c : Prg) : ∀ (l : List Ins) (k n : Int), (rowsT (toksFrom c l k) n).map (fun r => (r.1, r.2.1)) = l.map (rowI c)
  | [], _, _ => rfl
  | i :: m, k, n => by
    rw [toksFrom, rowsT_app, rows_lab]
    simp [rowsT, rows_toks c m]

theorem nm_nl (op : Int) : Nl (nmL op) := by
  rcases op_cases op with rfl | rfl | rfl | rfl | rfl | rfl | rfl | rfl | rfl | rfl | rfl | rfl | rfl | rfl | rfl | rfl | rfl | rfl | rfl | rfl | rfl | hn
  all_goals first | (unfold Nl; decide) | (rw [(hs_none hn).2]; unfold Nl; simp)
theorem part_nl (i : Ins) (x : Int) : Nl (partL i x) := by
  have key : ∀ (a : List UInt8) (n : Int), (∀ y ∈ a, y ≠ 10) → Nl (a ++ Lib.itoa n) := fun a n ha => Nl.app ha (itoa_nl n)
  have k1 : ∀ n : Int, Nl (32 :: Lib.itoa n) := fun n => key [32] n (by decide)
  unfold partL
  repeat' split
  all_goals first
    | exact k1 _
    | exact key _ _ (by decide)
    | (unfold Nl; decide)
theorem parts_nl (i : Ins) : ∀ l : List UInt8, Nl (partsL i l)
  | [] => by unfold Nl partsL; simp
  | x :: l => by
    have : partsL i (x :: l) = partL i x.toNat ++ partsL i l := by simp [partsL]
    rw [this]
    exact Nl.app (part_nl i _) (parts_nl i l)
theorem text_nl (i : Ins) : Nl (textL i) := Nl.app (nm_nl _) (parts_nl i _)
theorem head_nl (i : Ins) : Nl (headI i) := by
  unfold headI
  refine Nl.app (Nl.app (nm_nl _) (parts_nl i _)) ?_
  split <;> (unfold Nl; decide)
theorem name_nl {s : List UInt8} (h : nameB s = true) : Nl s := by
  unfold nameB at h
  simp only [Bool.and_eq_true] at h
  intro c hc e
  have := List.all_eq_true.1 h.2.2.2 c hc
  subst e
  revert this
  decide

theorem itoa_ne (n : Int) : Lib.itoa n ≠ [] := by
  unfold Lib.itoa
  split
  · simp
  · obtain ⟨c, r, h, -⟩ := dec_cons n.toNat
    rw [h]
    simp
theorem text_rest {i : Ins} {p : Int} (hr : rightB i p = true) : ∃ r, textL i = nmL i.op ++ 32 :: r ∧ r ≠ [] := by
  have hh := right_hs hr
  have hi := itoa_ne
  obtain ⟨op, d, s, t, u, a, k, pl⟩ := i
  simp only at hh
  rcases op_cases op with rfl | rfl | rfl | rfl | rfl | rfl | rfl | rfl | rfl | rfl | rfl | rfl | rfl | rfl | rfl | rfl | rfl | rfl | rfl | rfl | rfl | hn
  all_goals first
    | exact absurd (hs_none hn).1 hh
    | (unfold textL partsL; simp only [hsL]; simp [partL, getI, hi])

theorem row_ok (c : Prg) (i : Ins) (hr : rightB i c.l.length = true) (hc : c.l.length ≤ 64) (k0 : 0 ≤ i.k) (k1 : i.k < 4294967296) : (Tok.ins (rowI c i).1 (rowI c i).2 (insLine c i)).Ok ∧ Nl (insLine c i) := by
  unfold Tok.Ok insLine
  simp only
  by_cases hg : goesB i = true
  · have hp := goes_pl hr hg
    have hn := name_label c hp.1 (by omega : i.pl < 64)
    rw [if_pos hg, show rowI c i = ({ i with pl := 0 }, labelL c i.pl) from if_pos hg]
    obtain ⟨a, ha⟩ := headI_end i
    exact ⟨⟨lb_no (a := a) (b := labelL c i.pl) (by rw [ha]; simp) (label_ne c _), line_goes i hr (by omega) k0 k1 hg _ hn⟩, Nl.app (head_nl i) (name_nl hn)⟩
  · rw [if_neg hg, show rowI c i = (i, []) from if_neg hg]
    obtain ⟨r, h1, h2⟩ := text_rest hr
    exact ⟨⟨lb_no h1 h2, line_stay i hr (by omega) k0 k1 (by simpa using hg)⟩, text_nl i⟩
theorem toks_ok (c : Prg) (hc : c.l.length ≤ 64) : ∀ (l : List Ins) (k : Int), 0 ≤ k → k + l.length ≤ 64 → (∀ i ∈ l, rightB i c.l.length = true ∧ 0 ≤ i.k ∧ i.k < 4294967296) → ∀ t ∈ toksFrom c l k, t.Ok ∧ Nl t.text
  | [], k, _, _, _, t, ht => by simp [toksFrom] at ht
  | i :: m, k, h0, h1, h, t, ht => by
    rw [toksFrom] at ht
    simp only [List.length_cons] at h1
    rcases List.mem_append.1 ht with ht | ht
    · obtain ⟨x, hx, rfl⟩ := List.mem_map.1 ht
      have hn := labs_name hx h0 (by omega)
      exact ⟨hn, Nl.app (name_nl hn) (by unfold Nl; decide)⟩
    · rcases List.mem_cons.1 ht with rfl | ht
      · obtain ⟨a, b, d⟩ := h i List.mem_cons_self
        exact row_ok c i a hc b d
      · exact toks_ok c hc m (k + 1) (by omega) (by omega) (fun i hi => h i (List.mem_cons_of_mem _ hi)) t ht

theorem prg_facts {c : Prg} (h : prgB c = true) : c.l.length ≤ 64 ∧ ∀ i ∈ c.l, rightB i c.l.length = true := by
  unfold prgB at h
  simp only [Bool.and_eq_true, decide_eq_true_eq, List.all_eq_true] at h
  exact ⟨h.2.1, h.2.2.2.2.2.2⟩

/-- What is assembled of a program's own text is the program. -/
theorem asm_print (c : Prg) (hc : prgB c = true) (hk : ∀ i ∈ c.l, 0 ≤ i.k ∧ i.k < 4294967296) : asmL (printL c) = (c, 0, 0) := by
  obtain ⟨h1, h2⟩ := prg_facts hc
  have hok := toks_ok c h1 c.l 0 (by omega) (by omega) fun i hi => ⟨h2 i hi, hk i hi⟩
  unfold printL
  rw [← toks_text]
  exact asm_prog c hc _ (fun t ht => (hok t ht).1) (names_nodup c _ _ (by omega)) (fun t ht => (hok t ht).2) (rows_toks c _ _ _)
    fun j x j0 j1 hx => labs_mem c c.l 0 j x j0 (by omega) hx
end Go.Proofs.YteohnkilchkhkaaGreatDoor
