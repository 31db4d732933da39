/- Labels besides change nothing; what is assembled is right; one instruction too many is told. No walk stands here. -/
import Derived.Test.YteohnkilchkhkaaGreatDoorAsmP
namespace Go.Proofs.YteohnkilchkhkaaGreatDoor
set_option linter.unusedVariables false

/-- The name of the label number k besides. -/
def xnameL (k : Nat) : List UInt8 := [120, UInt8.ofNat (97 + k / 26 % 26), UInt8.ofNat (97 + k % 26)]
theorem xname_name (k : Nat) : nameB (xnameL k) = true := by
  have h1 : k / 26 % 26 < 26 := Nat.mod_lt _ (by decide)
  have h2 : k % 26 < 26 := Nat.mod_lt _ (by decide)
  have key : ∀ n, n < 26 → lowB (UInt8.ofNat (97 + n)) = true := by decide
  unfold nameB xnameL
  simp only [List.length_cons, List.length_nil, List.all_cons, List.all_nil, key _ h1, key _ h2, Bool.true_or, Bool.and_true, Bool.and_self]
  rfl
theorem ofNat_inj : ∀ m, m < 26 → ∀ n, n < 26 → UInt8.ofNat (97 + m) = UInt8.ofNat (97 + n) → m = n := by decide
theorem xname_inj {j k : Nat} (hj : j < 676) (hk : k < 676) (h : xnameL j = xnameL k) : j = k := by
  unfold xnameL at h
  injection h with _ h
  injection h with h1 h
  injection h with h2 _
  have e1 := ofNat_inj _ (Nat.mod_lt _ (by decide)) _ (Nat.mod_lt _ (by decide)) h1
  have e2 := ofNat_inj _ (Nat.mod_lt _ (by decide)) _ (Nat.mod_lt _ (by decide)) h2
  omega
theorem xname_no {c : Prg} {k : Int} {j : Nat} : xnameL j ∉ labsAt c k := by
  intro h
  have : (xnameL j).head? = some 120 := rfl
  rcases labs_cases h with ⟨e, -⟩ | ⟨e, -⟩ | ⟨e, -⟩ <;> (rw [e] at this; revert this)
  · decide
  · decide
  · simp

/-- So many labels ahead of each line. -/
def decoT (m : Nat) : List Tok → Nat → List Tok
  | [], _ => []
  | t :: ts, k => ((List.range m).map fun j => Tok.lab (xnameL (k + j))) ++ t :: decoT m ts (k + m)
/-- .. as lines. -/
def decoL (m : Nat) : List (List UInt8) → Nat → List (List UInt8)
  | [], _ => []
  | s :: ts, k => ((List.range m).map fun j => xnameL (k + j) ++ [58]) ++ s :: decoL m ts (k + m)
theorem deco_text (m : Nat) : ∀ (toks : List Tok) (k : Nat), (decoT m toks k).map Tok.text = decoL m (toks.map Tok.text) k
  | [], _ => rfl
  | t :: ts, k => by
    simp only [decoT, decoL, List.map_append, List.map_map, List.map_cons, deco_text m ts (k + m)]
    rfl
theorem deco_mem (m : Nat) : ∀ (toks : List Tok) (k : Nat) (t : Tok), t ∈ decoT m toks k → t ∈ toks ∨ ∃ j, k ≤ j ∧ j < k + m * toks.length ∧ t = .lab (xnameL j)
  | [], k, t, h => by simp [decoT] at h
  | x :: ts, k, t, h => by
    rw [decoT] at h
    have e : m * (x :: ts).length = m * ts.length + m := by rw [List.length_cons, Nat.mul_succ]
    rcases List.mem_append.1 h with h | h
    · obtain ⟨j, hj, rfl⟩ := List.mem_map.1 h
      have := List.mem_range.1 hj
      exact .inr ⟨k + j, by omega, by omega, rfl⟩
    · rcases List.mem_cons.1 h with rfl | h
      · exact .inl List.mem_cons_self
      · rcases deco_mem m ts (k + m) t h with h | ⟨j, h1, h2, h3⟩
        · exact .inl (List.mem_cons_of_mem _ h)
        · exact .inr ⟨j, by omega, by omega, h3⟩
theorem names_x (m k : Nat) : namesT ((List.range m).map fun j => Tok.lab (xnameL (k + j))) = (List.range m).map fun j => xnameL (k + j) := by
  have h := names_lab ((List.range m).map fun j => xnameL (k + j))
  rw [List.map_map] at h
  exact h
theorem deco_names (m : Nat) : ∀ (toks : List Tok) (k : Nat) (x : List UInt8), x ∈ namesT (decoT m toks k) → x ∈ namesT toks ∨ ∃ j, k ≤ j ∧ j < k + m * toks.length ∧ x = xnameL j
  | [], k, x, h => by simp [decoT, namesT] at h
  | t :: ts, k, x, h => by
    have e : m * (t :: ts).length = m * ts.length + m := by rw [List.length_cons, Nat.mul_succ]
    rw [decoT, names_app, names_x] at h
    rcases List.mem_append.1 h with h | h
    · obtain ⟨j, hj, rfl⟩ := List.mem_map.1 h
      have := List.mem_range.1 hj
      exact .inr ⟨k + j, by omega, by omega, rfl⟩
    · have h2 : x ∈ namesT [t] ++ namesT (decoT m ts (k + m)) := by rw [← names_app]; exact h
      rw [show t :: ts = [t] ++ ts from rfl, names_app]
      rcases List.mem_append.1 h2 with h | h
      · exact .inl (List.mem_append.2 (.inl h))
      · rcases deco_names m ts (k + m) x h with h | ⟨j, h1, h2, h3⟩
        · exact .inl (List.mem_append.2 (.inr h))
        · refine .inr ⟨j, by omega, ?_, h3⟩
          show j < k + m * (t :: ts).length
          omega
theorem deco_nodup (m : Nat) : ∀ (toks : List Tok) (k : Nat), k + m * toks.length ≤ 676 → (namesT toks).Nodup → (∀ x ∈ namesT toks, ∀ j, x ≠ xnameL j) → (namesT (decoT m toks k)).Nodup
  | [], k, _, _, _ => by simp [decoT, namesT]
  | t :: ts, k, hk, hnd, hx => by
    have e : m * (t :: ts).length = m * ts.length + m := by rw [List.length_cons, Nat.mul_succ]
    rw [show t :: ts = [t] ++ ts from rfl, names_app] at hnd hx
    have ih := deco_nodup m ts (k + m) (by omega) (List.nodup_append.1 hnd).2.1 fun x h => hx x (List.mem_append.2 (.inr h))
    rw [decoT, names_app, names_x, show t :: decoT m ts (k + m) = [t] ++ decoT m ts (k + m) from rfl, names_app]
    have r1 : ((List.range m).map fun j => xnameL (k + j)).Nodup := by
      rw [List.nodup_iff_pairwise_ne, List.pairwise_map]
      refine List.Pairwise.imp_of_mem (fun {a b} ha hb hab he => hab ?_) (List.nodup_iff_pairwise_ne.1 List.nodup_range)
      have := List.mem_range.1 ha
      have := List.mem_range.1 hb
      have := xname_inj (by omega) (by omega) he
      omega
    refine List.nodup_append.2 ⟨r1, List.nodup_append.2 ⟨(List.nodup_append.1 hnd).1, ih, ?_⟩, ?_⟩
    · intro a ha b hb he
      subst he
      rcases deco_names m ts (k + m) a hb with h | ⟨j, -, -, h⟩
      · exact (List.nodup_append.1 hnd).2.2 a ha a h rfl
      · exact hx a (List.mem_append.2 (.inl ha)) j h
    · intro a ha b hb he
      subst he
      obtain ⟨j, hj, rfl⟩ := List.mem_map.1 ha
      have hj := List.mem_range.1 hj
      rcases List.mem_append.1 hb with h | h
      · exact hx _ (List.mem_append.2 (.inl h)) (k + j) rfl
      · rcases deco_names m ts (k + m) _ h with h | ⟨j2, h1, h2, h3⟩
        · exact hx _ (List.mem_append.2 (.inr h)) (k + j) rfl
        · have := xname_inj (by omega) (by omega) h3
          omega
theorem deco_rows (m : Nat) : ∀ (toks : List Tok) (k : Nat) (n n2 : Int), (rowsT (decoT m toks k) n).map (fun r => (r.1, r.2.1)) = (rowsT toks n2).map fun r => (r.1, r.2.1)
  | [], _, _, _ => rfl
  | t :: ts, k, n, n2 => by
    have h := rows_lab ((List.range m).map fun j => xnameL (k + j)) n
    rw [List.map_map] at h
    rw [decoT, rowsT_app]
    rw [show rowsT ((List.range m).map fun j => Tok.lab (xnameL (k + j))) n = [] from h]
    cases t with
    | lab nm => simp only [List.nil_append, rowsT]; exact deco_rows m ts _ _ _
    | ins i nm s => simp only [List.nil_append, rowsT, List.map_cons]; rw [deco_rows m ts (k + m) _ (n2 + 1)]
theorem deco_labs (m : Nat) : ∀ (toks : List Tok) (k : Nat) (q : Int) (x : List UInt8 × Int), x ∈ labsT toks q → x ∈ labsT (decoT m toks k) q
  | [], _, _, x, h => by simp [labsT] at h
  | t :: ts, k, q, x, h => by
    have h1 := rows_lab ((List.range m).map fun j => xnameL (k + j)) 0
    rw [List.map_map] at h1
    rw [decoT, labsT_app]
    rw [show rowsT ((List.range m).map fun j => Tok.lab (xnameL (k + j))) 0 = [] from h1]
    refine List.mem_append.2 (.inr ?_)
    simp only [List.length_nil, Int.ofNat_zero, Int.add_zero]
    cases t with
    | lab nm =>
      simp only [labsT] at h ⊢
      rcases List.mem_cons.1 h with h | h
      · exact List.mem_cons.2 (.inl h)
      · exact List.mem_cons_of_mem _ (deco_labs m ts _ _ x h)
    | ins i nm s =>
      simp only [labsT] at h ⊢
      exact deco_labs m ts _ _ x h

theorem toks_len (c : Prg) : ∀ (l : List Ins) (k : Int), (toksFrom c l k).length ≤ 4 * l.length
  | [], _ => by simp [toksFrom]
  | i :: m, k => by
    have h := labs_len c k
    have ih := toks_len c m (k + 1)
    simp only [toksFrom, List.length_append, List.length_map, List.length_cons]
    omega

/-- What is assembled of a program's own text, with up to two labels besides ahead of each line, is the program. -/
theorem asm_deco (c : Prg) (hc : prgB c = true) (hk : ∀ i ∈ c.l, 0 ≤ i.k ∧ i.k < 4294967296) (m : Nat) (hm : m ≤ 2) : asmL ((decoL m (linesFrom c c.l 0) 0).flatMap fun s => s ++ [10]) = (c, 0, 0) := by
  obtain ⟨h1, h2⟩ := prg_facts hc
  have hok := toks_ok c h1 c.l 0 (by omega) (by omega) fun i hi => ⟨h2 i hi, hk i hi⟩
  have hlen := toks_len c c.l 0
  have hbound : 0 + m * (toksFrom c c.l 0).length ≤ 676 := by
    have : m * (toksFrom c c.l 0).length ≤ 2 * 256 := Nat.mul_le_mul hm (by omega)
    omega
  rw [← toks_text, ← deco_text]
  have hx : ∀ j, (Tok.lab (xnameL j)).Ok ∧ Nl (Tok.lab (xnameL j)).text := fun j => ⟨xname_name j, Nl.app (name_nl (xname_name j)) (by unfold Nl; decide)⟩
  have hok2 : ∀ t ∈ decoT m (toksFrom c c.l 0) 0, t.Ok ∧ Nl t.text := fun t ht => by
    rcases deco_mem m _ _ t ht with h | ⟨j, -, -, rfl⟩
    · exact hok t h
    · exact hx j
  refine asm_prog c hc _ (fun t ht => (hok2 t ht).1) (deco_nodup m _ 0 hbound (names_nodup c _ _ (by omega)) ?_) (fun t ht => (hok2 t ht).2) ?_ fun j x j0 j1 hx => deco_labs m _ _ _ _ (labs_mem c c.l 0 j x j0 (by omega) hx)
  · intro x hx j he
    obtain ⟨p, -, -, hp⟩ := names_mem c _ _ x hx
    subst he
    exact xname_no hp
  · rw [deco_rows m _ 0 1 1, rows_toks]

-- what is assembled is right
theorem line_right {s nm : List UInt8} {i : Ins} (h : lineL s = some (i, nm)) : rightB i 1073741824 = true ∧ 0 ≤ i.k ∧ i.k < 4294967296 ∧ ((nm = [] ∧ goesB i = false) ∨ (nm ≠ [] ∧ goesB i = true)) := by
  have key : ∀ j : Option Ins, prs s = j → (match j with | some j => if goesB j = true then none else some (j, ([] : List UInt8)) | none => none) = some (i, nm) → rightB i 1073741824 = true ∧ 0 ≤ i.k ∧ i.k < 4294967296 ∧ ((nm = [] ∧ goesB i = false) ∨ (nm ≠ [] ∧ goesB i = true)) := by
    intro j hj h
    cases j with
    | none => cases h
    | some j =>
      simp only at h
      split at h
      · cases h
      · rename_i hg
        injection h with h
        injection h with h1 h2
        subst h1 h2
        obtain ⟨a, b, c, -⟩ := (prs_iff _ _).1 hj
        exact ⟨a, b, c, .inl ⟨rfl, by simpa using hg⟩⟩
  unfold lineL at h
  split at h
  · rename_i j hj
    split at h
    · rename_i hg
      injection h with h
      injection h with h1 h2
      subst h1 h2
      obtain ⟨a, b, c, -⟩ := (prs_iff _ _).1 hj
      exact ⟨a, b, c, .inr ⟨name_ne hg.2, hg.1⟩⟩
    · exact key _ rfl h
  · exact key _ rfl h
theorem right_any {i : Ins} {p : Int} (h : rightB i p = true) (hg : goesB i = false) (q : Int) : rightB i q = true := by
  obtain ⟨op, d, s, t, u, a, k, pl⟩ := i
  have hh := right_hs h
  simp only at hh
  unfold goesB at hg
  simp only [Bool.or_eq_false_iff, Bool.and_eq_false_iff, decide_eq_false_iff_not] at hg
  unfold rightB at *
  simp only [Bool.and_eq_true, List.all_eq_true] at *
  refine ⟨h.1, fun c hc => ?_, h.2.2⟩
  have hi := h.2.1 c hc
  by_cases e : (c.toNat : Int) = 80
  · have hop : op = 21 := by
      rcases op_cases op with rfl | rfl | rfl | rfl | rfl | rfl | rfl | rfl | rfl | rfl | rfl | rfl | rfl | rfl | rfl | rfl | rfl | rfl | rfl | rfl | rfl | hn
      all_goals first
        | rfl
        | (exfalso; omega)
        | exact absurd (hs_none hn).1 hh
        | (exfalso; revert e; simp [hsL] at hc; rcases hc with rfl | rfl | rfl | rfl | rfl <;> decide)
        | (exfalso; revert e; simp [hsL] at hc; rcases hc with rfl | rfl | rfl | rfl <;> decide)
        | (exfalso; revert e; simp [hsL] at hc; rcases hc with rfl | rfl | rfl <;> decide)
        | (exfalso; revert e; simp [hsL] at hc; rcases hc with rfl | rfl <;> decide)
        | (exfalso; revert e; simp [hsL] at hc; subst hc; decide)
    subst hop
    unfold inB lowI endI getI at *
    rw [e] at hi ⊢
    simp at hi hg ⊢
    refine ⟨hi.1, ?_⟩
    split <;> omega
  · unfold inB endI at *
    simp only [if_neg e] at hi ⊢
    exact hi
theorem right_put {i : Ins} {p q r : Int} (h : rightB i p = true) (hg : goesB i = true) (h0 : 0 ≤ r) (h1 : r < q) : rightB { i with pl := r } q = true := by
  obtain ⟨op, d, s, t, u, a, k, pl⟩ := i
  unfold rightB at *
  rcases goes_cases hg with e | e | e | ⟨e, e2⟩ <;> (simp only at e; subst e; simp [hsL, inB, lowI, endI, getI, isZ, clr, setI] at h ⊢)
  · exact ⟨⟨h.1.1, h.1.2.1, h0, h1⟩, h.2⟩
  · exact ⟨⟨h.1.1, h.1.2.1, h0, h1⟩, h.2⟩
  · exact ⟨⟨h0, h1⟩, h.2⟩
  · obtain ⟨⟨q1, q2, q3, q4, q5, q6⟩, q7⟩ := h
    refine ⟨⟨q1, q2, q3, q4, q5, by omega, ?_⟩, q7⟩
    split <;> omega

def RowOk (r : Ins × List UInt8 × Int) : Prop := rightB r.1 1073741824 = true ∧ 0 ≤ r.1.k ∧ r.1.k < 4294967296 ∧ ((r.2.1 = [] ∧ goesB r.1 = false) ∨ (r.2.1 ≠ [] ∧ goesB r.1 = true))
theorem asm1_rows : ∀ (l : List (List UInt8)) (n : Int) (ls : List (List UInt8 × Int)) (rs : List (Ins × List UInt8 × Int)) (ls2 : List (List UInt8 × Int)) (rs2 : List (Ins × List UInt8 × Int)),
    asm1 l n ls rs = .inr (ls2, rs2) → (∀ r ∈ rs, RowOk r) → rs.length ≤ 64 → (∀ r ∈ rs2, RowOk r) ∧ rs2.length ≤ 64
  | [], n, ls, rs, ls2, rs2, h, hr, hl => by
    injection h with h
    injection h with h1 h2
    subst h2
    exact ⟨hr, hl⟩
  | s :: m, n, ls, rs, ls2, rs2, h, hr, hl => by
    unfold asm1 at h
    split at h
    · split at h
      · cases h
      · exact asm1_rows m _ _ _ _ _ h hr hl
    · split at h
      · cases h
      · rename_i i nm hln
        split at h
        · cases h
        · refine asm1_rows m _ _ _ _ _ h (fun r hr2 => ?_) (by simp; omega)
          rcases List.mem_append.1 hr2 with h2 | h2
          · exact hr r h2
          · obtain rfl : r = (i, nm, n) := by simpa using h2
            exact line_right hln
theorem find_lt {ls : List (List UInt8 × Int)} {s : List UInt8} {n : Int} (h : 0 ≤ findL ls s n) : findL ls s n < n := by
  unfold findL at *
  split at h
  · rename_i x hx
    have := List.find?_some hx
    simp only [Bool.and_eq_true, decide_eq_true_eq] at this
    exact this.2
  · omega
theorem asm2_right {ls : List (List UInt8 × Int)} {n : Int} : ∀ (rs : List (Ins × List UInt8 × Int)) (l : List Ins), asm2 ls n rs = .inr l → (∀ r ∈ rs, RowOk r) → l.length = rs.length ∧ ∀ i ∈ l, rightB i n = true ∧ 0 ≤ i.k ∧ i.k < 4294967296
  | [], l, h, _ => by
    injection h with h
    subst h
    simp
  | (i, nm, row) :: m, l, h, hr => by
    have h1 := hr _ List.mem_cons_self
    unfold RowOk at h1
    simp only at h1
    unfold asm2 at h
    split at h
    · rename_i e
      cases h2 : asm2 ls n m with
      | inl x => rw [h2] at h; cases h
      | inr l2 =>
        rw [h2] at h
        injection h with h
        subst h
        obtain ⟨a, b⟩ := asm2_right m l2 h2 fun r hr2 => hr r (List.mem_cons_of_mem _ hr2)
        refine ⟨by simp [a], fun j hj => ?_⟩
        rcases List.mem_cons.1 hj with rfl | hj
        · refine ⟨right_any h1.1 ?_ n, h1.2.1, h1.2.2.1⟩
          rcases h1.2.2.2 with h3 | h3
          · exact h3.2
          · exact absurd e h3.1
        · exact b j hj
    · rename_i e
      split at h
      · cases h
      · rename_i hf
        cases h2 : asm2 ls n m with
        | inl x => rw [h2] at h; cases h
        | inr l2 =>
          rw [h2] at h
          injection h with h
          subst h
          obtain ⟨a, b⟩ := asm2_right m l2 h2 fun r hr2 => hr r (List.mem_cons_of_mem _ hr2)
          refine ⟨by simp [a], fun j hj => ?_⟩
          rcases List.mem_cons.1 hj with rfl | hj
          · refine ⟨?_, h1.2.1, h1.2.2.1⟩
            rcases h1.2.2.2 with h3 | h3
            · exact absurd h3.1 e
            · exact right_put h1.1 h3.2 (by omega) (find_lt (by omega))
          · exact b j hj

/-- What is assembled is a right program. -/
theorem asm_right {text : List UInt8} {c : Prg} {n : Int} (h : asmL text = (c, n, 0)) : prgB c = true ∧ n = 0 ∧ ∀ i ∈ c.l, 0 ≤ i.k ∧ i.k < 4294967296 := by
  have bad1 : ∀ (l : List (List UInt8)) (n : Int) (ls : List (List UInt8 × Int)) (rs : List (Ins × List UInt8 × Int)) (m e : Int), asm1 l n ls rs = .inl (m, e) → e ≠ 0 := by
    intro l
    induction l with
    | nil => intro n ls rs m e h; cases h
    | cons s l ih =>
      intro n ls rs m e h
      unfold asm1 at h
      split at h
      · split at h
        · injection h with h; injection h with _ h; omega
        · exact ih _ _ _ _ _ h
      · split at h
        · injection h with h; injection h with _ h; omega
        · split at h
          · injection h with h; injection h with _ h; omega
          · exact ih _ _ _ _ _ h
  have bad2 : ∀ (ls : List (List UInt8 × Int)) (n : Int) (rs : List (Ins × List UInt8 × Int)) (m e : Int), asm2 ls n rs = .inl (m, e) → e ≠ 0 := by
    intro ls n rs
    induction rs with
    | nil => intro m e h; cases h
    | cons r rs ih =>
      intro m e h
      obtain ⟨i, nm, row⟩ := r
      unfold asm2 at h
      split at h
      · cases h2 : asm2 ls n rs with
        | inl x => rw [h2] at h; injection h with h; subst h; exact ih m e h2
        | inr l2 => rw [h2] at h; cases h
      · split at h
        · injection h with h; injection h with _ h; omega
        · cases h2 : asm2 ls n rs with
          | inl x => rw [h2] at h; injection h with h; subst h; exact ih m e h2
          | inr l2 => rw [h2] at h; cases h
  unfold asmL at h
  split at h
  · rename_i m e h1
    injection h with _ h
    injection h with _ h
    exact absurd h (bad1 _ _ _ _ _ _ h1)
  · rename_i ls rs h1
    obtain ⟨hr, hl⟩ := asm1_rows _ _ _ _ _ _ h1 (by simp) (by simp)
    split at h
    · injection h with _ h; injection h with _ h; omega
    · split at h
      · rename_i m e h2
        injection h with _ h
        injection h with _ h
        exact absurd h (bad2 _ _ _ _ _ h2)
      · rename_i l h2
        split at h
        · injection h with _ h; injection h with _ h; omega
        · rename_i hf
          injection h with hc h
          injection h with hn _
          subst hc
          obtain ⟨a, b⟩ := asm2_right _ _ h2 hr
          have f1 := find_lt (ls := ls) (s := lockW) (n := rs.length) (by omega)
          have f2 := find_lt (ls := ls) (s := unlockW) (n := rs.length) (by omega)
          refine ⟨?_, hn.symm, fun i hi => (b i hi).2⟩
          unfold prgB
          simp only [Bool.and_eq_true, decide_eq_true_eq, List.all_eq_true, a]
          exact ⟨by omega, hl, by omega, by omega, f1, f2, fun i hi => (b i hi).1⟩

-- just as many instructions as may be
theorem asm1_more (rest : List (List UInt8)) : ∀ (toks : List Tok) (n : Int) (ls : List (List UInt8 × Int)) (rs : List (Ins × List UInt8 × Int)), (∀ t ∈ toks, t.Ok) → (ls.map (·.1) ++ namesT toks).Nodup → rs.length + (rowsT toks n).length ≤ 64 →
    asm1 (toks.map Tok.text ++ rest) n ls rs = asm1 rest (n + toks.length) (ls ++ labsT toks rs.length) (rs ++ rowsT toks n)
  | [], n, ls, rs, _, _, _ => by simp [labsT, rowsT]
  | .lab nm :: m, n, ls, rs, hok, hnd, hc => by
    have h1 : nameB nm = true := hok _ List.mem_cons_self
    have hany : (ls.any fun x => x.1 == nm) = false := by
      rw [Bool.eq_false_iff]
      intro h
      obtain ⟨x, hx, he⟩ := List.any_eq_true.1 h
      have he2 : x.1 = nm := by simpa using he
      have := (List.nodup_append.1 hnd).2.2 x.1 (List.mem_map.2 ⟨x, hx, rfl⟩) nm (by simp [namesT])
      exact this he2
    have ih := asm1_more rest m (n + 1) (ls ++ [(nm, (rs.length : Int))]) rs (fun t ht => hok t (List.mem_cons_of_mem _ ht)) (by simpa [namesT] using hnd) (by simpa [rowsT] using hc)
    simp only [List.map_cons, List.cons_append, Tok.text, asm1, lb_yes h1, if_pos, List.dropLast_concat, hany]
    rw [if_neg (by decide), ih]
    simp only [labsT, rowsT, List.append_assoc, List.cons_append, List.nil_append, List.length_cons]
    congr 1
    simp
    omega
  | .ins i nm s :: m, n, ls, rs, hok, hnd, hc => by
    obtain ⟨h1, h2⟩ : lbB s = false ∧ lineL s = some (i, nm) := hok _ List.mem_cons_self
    have hc2 : rs.length + ((rowsT m (n + 1)).length + 1) ≤ 64 := by simpa [rowsT] using hc
    have ih := asm1_more rest m (n + 1) ls (rs ++ [(i, nm, n)]) (fun t ht => hok t (List.mem_cons_of_mem _ ht)) (by simpa [namesT] using hnd) (by simp; omega)
    simp only [List.map_cons, List.cons_append, Tok.text, asm1, h1, h2]
    rw [if_neg (by decide), if_neg (by omega), ih]
    simp only [labsT, rowsT, List.append_assoc, List.cons_append, List.nil_append, List.length_cons, List.length_append, List.length_nil]
    congr 1
    · simp
      omega

def done1 : Ins := ⟨13, 0, 0, 0, 0, 0, 1, 0⟩
def doneW : List UInt8 := [100, 111, 110, 101, 32, 49]
theorem done_text : textL done1 = doneW := by
  have h := join_13 1
  rw [Lib.decDigits, dif_pos (by decide)] at h
  exact h
def bigT (k : Nat) : List Tok := [.lab lockW, .lab unlockW] ++ List.replicate k (.ins done1 [] doneW)
def bigL (k : Nat) : List (List UInt8) := [lockW ++ [58], unlockW ++ [58]] ++ List.replicate k doneW
theorem big_text (k : Nat) : (bigT k).map Tok.text = bigL k := by
  simp [bigT, bigL, Tok.text]
theorem big_ok (k : Nat) : ∀ t ∈ bigT k, t.Ok ∧ Nl t.text := by
  have hd : (Tok.ins done1 [] doneW).Ok ∧ Nl doneW := by
    have h := line_stay done1 (p := 1073741824) (by decide) (by decide) (by decide) (by decide) (by decide)
    rw [done_text] at h
    exact ⟨⟨lb_no (a := [100, 111, 110, 101]) (b := [49]) rfl (by simp), h⟩, by unfold Nl; decide⟩
  intro t ht
  rcases List.mem_append.1 ht with h | h
  · rcases List.mem_cons.1 h with rfl | h
    · exact ⟨(by decide : nameB lockW = true), by unfold Nl Tok.text; decide⟩
    · obtain rfl : t = .lab unlockW := by simpa using h
      exact ⟨(by decide : nameB unlockW = true), by unfold Nl Tok.text; decide⟩
  · obtain rfl : t = .ins done1 [] doneW := (List.mem_replicate.1 h).2
    exact hd
theorem rows_rep : ∀ (k : Nat) (n : Int), (rowsT (List.replicate k (Tok.ins done1 [] doneW)) n).map (fun r => (r.1, r.2.1)) = List.replicate k (done1, [])
  | 0, _ => rfl
  | k + 1, n => by simp only [List.replicate_succ, rowsT, List.map_cons, rows_rep k (n + 1)]
theorem names_rep : ∀ (k : Nat), namesT (List.replicate k (Tok.ins done1 [] doneW)) = []
  | 0 => rfl
  | k + 1 => by simp only [List.replicate_succ, namesT, names_rep k]
theorem big_names (k : Nat) : namesT (bigT k) = [lockW, unlockW] := by
  unfold bigT
  rw [names_app, names_rep]
  rfl
theorem big_rows (k : Nat) (n : Int) : (rowsT (bigT k) n).map (fun r => (r.1, r.2.1)) = List.replicate k (done1, []) := by
  unfold bigT
  simp only [List.cons_append, List.nil_append, rowsT]
  exact rows_rep k _
theorem big_fits (k : Nat) (h1 : 1 ≤ k) (h2 : k ≤ 64) : asmL ((bigL k).flatMap fun s => s ++ [10]) = (⟨List.replicate k done1, 0, 0⟩, 0, 0) := by
  have hc : prgB ⟨List.replicate k done1, 0, 0⟩ = true := by
    unfold prgB
    simp only [Bool.and_eq_true, decide_eq_true_eq, List.all_eq_true, List.length_replicate]
    refine ⟨h1, h2, by omega, by omega, by omega, by omega, fun i hi => ?_⟩
    rw [(List.mem_replicate.1 hi).2]
    exact right_any (p := 64) (by decide) (by decide) _
  rw [← big_text]
  refine asm_prog _ hc (bigT k) (fun t ht => (big_ok k t ht).1) (by rw [big_names]; decide) (fun t ht => (big_ok k t ht).2) ?_ ?_
  · rw [big_rows]
    simp only [List.map_replicate]
    rfl
  · intro j x j0 j1 hx
    have hw : ∀ j, wantB ⟨List.replicate k done1, 0, 0⟩ j = false := fun j => by
      unfold wantB
      rw [Bool.eq_false_iff]
      intro h
      obtain ⟨y, hy, he⟩ := List.any_eq_true.1 h
      rw [(List.mem_replicate.1 hy).2] at he
      revert he
      simp [goesB, done1]
    unfold labsAt at hx
    rw [hw] at hx
    by_cases e : j = 0
    · subst e
      unfold bigT
      simp at hx
      rcases hx with rfl | rfl <;> simp [labsT]
    · simp [e] at hx
theorem big_not (k : Nat) (h : 64 < k) : asmL ((bigL k).flatMap fun s => s ++ [10]) = (Prg.zero, 67, 9) := by
  have hp := pieces_lines (bigL k) (by
    rw [← big_text]
    intro s hs
    obtain ⟨t, ht, rfl⟩ := List.mem_map.1 hs
    exact (big_ok k t ht).2)
  have hb : bigL k = (bigT 64).map Tok.text ++ doneW :: List.replicate (k - 65) doneW := by
    rw [big_text]
    unfold bigL
    rw [List.append_assoc]
    congr 1
    rw [← List.replicate_succ, List.replicate_append_replicate]
    congr 1
    omega
  have hl : (rowsT (bigT 64) 1).length = 64 := by
    have := congrArg List.length (big_rows 64 1)
    simpa using this
  have hq := big_ok 65 (.ins done1 [] doneW) (by unfold bigT; simp)
  obtain ⟨⟨q1, q2⟩, -⟩ := hq
  have h1 := asm1_more (doneW :: List.replicate (k - 65) doneW) (bigT 64) 1 [] [] (fun t ht => (big_ok 64 t ht).1) (by rw [big_names]; decide) (by simp [hl])
  unfold asmL
  rw [hp, List.dropLast_concat, hb, h1]
  simp only [asm1, q1, q2, List.nil_append, hl]
  rw [if_neg (by decide), if_pos (Nat.le_refl _)]
  rfl
end Go.Proofs.YteohnkilchkhkaaGreatDoor
