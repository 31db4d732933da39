/- What is assembled of a program's own text is the program. No walk stands here. -/
import Derived.Test.YteohnkilchkhkaaGreatDoorAsmN
namespace Go.Proofs.YteohnkilchkhkaaGreatDoor
set_option linter.unusedVariables false

/-- A line, as what it is: a label, or an instruction with the name of its place. -/
inductive Tok where
  | lab (nm : List UInt8)
  | ins (i : Ins) (nm s : List UInt8)
def Tok.text : Tok → List UInt8
  | .lab nm => nm ++ [58]
  | .ins _ _ s => s
def Tok.Ok : Tok → Prop
  | .lab nm => nameB nm = true
  | .ins i nm s => lbB s = false ∧ lineL s = some (i, nm)
def labsT : List Tok → Int → List (List UInt8 × Int)
  | [], _ => []
  | .lab nm :: m, k => (nm, k) :: labsT m k
  | .ins _ _ _ :: m, k => labsT m (k + 1)
def rowsT : List Tok → Int → List (Ins × List UInt8 × Int)
  | [], _ => []
  | .lab _ :: m, n => rowsT m (n + 1)
  | .ins i nm _ :: m, n => (i, nm, n) :: rowsT m (n + 1)
def namesT : List Tok → List (List UInt8)
  | [] => []
  | .lab nm :: m => nm :: namesT m
  | .ins _ _ _ :: m => namesT m

theorem names_labs : ∀ (toks : List Tok) (k : Int), (labsT toks k).map (·.1) = namesT toks
  | [], _ => rfl
  | .lab nm :: m, k => by simp [labsT, namesT, names_labs m k]
  | .ins _ _ _ :: m, k => by simp [labsT, namesT, names_labs m (k + 1)]

theorem asm1_toks : ∀ (toks : List Tok) (n : Int) (ls : List (List UInt8 × Int)) (rs : List (Ins × List UInt8 × Int)), (∀ t ∈ toks, t.Ok) → (ls.map (·.1) ++ namesT toks).Nodup → rs.length + (rowsT toks n).length ≤ 64 →
    asm1 (toks.map Tok.text) n ls rs = .inr (ls ++ labsT toks rs.length, rs ++ rowsT toks n)
  | [], n, ls, rs, _, _, _ => by simp [asm1, labsT, rowsT]
  | .lab nm :: m, n, ls, rs, hok, hnd, hc => by
    have h1 : nameB nm = true := hok _ List.mem_cons_self
    have hany : (ls.any fun x => x.1 == nm) = false := by
      rw [Bool.eq_false_iff]
      intro h
      obtain ⟨x, hx, he⟩ := List.any_eq_true.1 h
      have he2 : x.1 = nm := by simpa using he
      have := (List.nodup_append.1 hnd).2.2 x.1 (List.mem_map.2 ⟨x, hx, rfl⟩) nm (by simp [namesT])
      exact this he2
    have ih := asm1_toks m (n + 1) (ls ++ [(nm, (rs.length : Int))]) rs (fun t ht => hok t (List.mem_cons_of_mem _ ht)) (by simpa [namesT] using hnd) (by simpa [rowsT] using hc)
    simp only [List.map_cons, Tok.text, asm1, lb_yes h1, if_pos, List.dropLast_concat, hany]
    rw [if_neg (by decide), ih]
    simp [labsT, rowsT]
  | .ins i nm s :: m, n, ls, rs, hok, hnd, hc => by
    obtain ⟨h1, h2⟩ : lbB s = false ∧ lineL s = some (i, nm) := hok _ List.mem_cons_self
    have hc2 : rs.length + ((rowsT m (n + 1)).length + 1) ≤ 64 := by simpa [rowsT] using hc
    have ih := asm1_toks m (n + 1) ls (rs ++ [(i, nm, n)]) (fun t ht => hok t (List.mem_cons_of_mem _ ht)) (by simpa [namesT] using hnd) (by simp; omega)
    simp only [List.map_cons, Tok.text, asm1, h1, h2]
    rw [if_neg (by decide), if_neg (by omega), ih]
    simp [labsT, rowsT]

theorem find_mem : ∀ (ls : List (List UInt8 × Int)) (s : List UInt8) (p n : Int), (ls.map (·.1)).Nodup → (s, p) ∈ ls → p < n → findL ls s n = p
  | [], s, p, n, _, h, _ => by simp at h
  | (x, q) :: m, s, p, n, hnd, h, hp => by
    unfold findL
    by_cases e : (s, p) = (x, q)
    · injection e with e1 e2
      subst e1 e2
      simp [hp]
    · have hm : (s, p) ∈ m := by
        rcases List.mem_cons.1 h with h | h
        · exact absurd h e
        · exact h
      have hne : x ≠ s := by
        rintro rfl
        have h2 : x ∉ m.map (·.1) := (List.nodup_cons.1 hnd).1
        exact h2 (List.mem_map.2 ⟨(x, p), hm, rfl⟩)
      have ih := find_mem m s p n (List.nodup_cons.1 hnd).2 hm hp
      unfold findL at ih
      rw [List.find?_cons_of_neg (by simp [hne])]
      exact ih

theorem asm2_all (ls : List (List UInt8 × Int)) (n : Int) : ∀ (rs : List (Ins × List UInt8 × Int)), (∀ r ∈ rs, r.2.1 = [] ∨ 0 ≤ findL ls r.2.1 n) →
    asm2 ls n rs = .inr (rs.map fun r => if r.2.1 = [] then r.1 else { r.1 with pl := findL ls r.2.1 n })
  | [], _ => rfl
  | (i, nm, row) :: m, h => by
    have ih := asm2_all ls n m fun r hr => h r (List.mem_cons_of_mem _ hr)
    have h1 := h _ List.mem_cons_self
    simp only at h1
    unfold asm2
    by_cases e : nm = []
    · rw [if_pos e, ih]
      simp [e]
    · rw [if_neg e, if_neg (by rcases h1 with h1 | h1; exact absurd h1 e; omega), ih]
      simp [e]

-- lines
def Nl (s : List UInt8) : Prop := ∀ c ∈ s, c ≠ 10
theorem Nl.app {a b : List UInt8} (ha : Nl a) (hb : Nl b) : Nl (a ++ b) := fun c hc => by
  rcases List.mem_append.1 hc with h | h
  · exact ha c h
  · exact hb c h
theorem piecesL_ne : ∀ s : List UInt8, piecesL s ≠ []
  | [] => by simp [piecesL]
  | c :: r => by
    unfold piecesL
    split
    · simp
    · cases h : piecesL r with
      | nil => simp [ahead]
      | cons a b => simp [ahead]
theorem pieces_more : ∀ (t r : List UInt8), Nl t → piecesL (t ++ 10 :: r) = t :: piecesL r
  | [], r, _ => by simp [piecesL]
  | c :: t, r, h => by
    have ih := pieces_more t r fun d hd => h d (List.mem_cons_of_mem _ hd)
    show piecesL (c :: (t ++ 10 :: r)) = _
    rw [piecesL, if_neg (h c List.mem_cons_self), ih]
    rfl
theorem pieces_lines : ∀ (l : List (List UInt8)), (∀ s ∈ l, Nl s) → piecesL (l.flatMap fun s => s ++ [10]) = l ++ [[]]
  | [], _ => rfl
  | s :: m, h => by
    have ih := pieces_lines m fun x hx => h x (List.mem_cons_of_mem _ hx)
    rw [List.flatMap_cons, List.append_assoc]
    show piecesL (s ++ 10 :: (m.flatMap fun s => s ++ [10])) = _
    rw [pieces_more s _ (h s List.mem_cons_self), ih]
    rfl

/-- What the rows of a program are. -/
def rowI (c : Prg) (i : Ins) : Ins × List UInt8 := if goesB i = true then ({ i with pl := 0 }, labelL c i.pl) else (i, [])

def finQ (ls : List (List UInt8 × Int)) (n : Int) (q : Ins × List UInt8) : Ins := if q.2 = [] then q.1 else { q.1 with pl := findL ls q.2 n }

theorem label_ne (c : Prg) (k : Int) : labelL c k ≠ [] := by
  unfold labelL lockW unlockW
  split
  · simp
  · split <;> simp
theorem label_at (c : Prg) (i : Ins) (hi : i ∈ c.l) (hg : goesB i = true) : labelL c i.pl ∈ labsAt c i.pl := by
  by_cases h1 : i.pl = c.lo
  · rw [show labelL c i.pl = lockW by unfold labelL; rw [if_pos h1]]
    unfold labsAt
    simp [h1]
  · by_cases h2 : i.pl = c.un
    · rw [show labelL c i.pl = unlockW by unfold labelL; rw [if_neg h1, if_pos h2]]
      unfold labsAt
      refine List.mem_append.2 (.inr (List.mem_append.2 (.inl ?_)))
      rw [if_pos h2]
      exact List.mem_cons_self
    · have hw : wantB c i.pl = true := by
        unfold wantB
        rw [List.any_eq_true]
        exact ⟨i, hi, by simp [hg]⟩
      unfold labsAt
      simp [h1, h2, hw]

/-- Lines that hold a program's labels, and its instructions in order, and labels besides: what is assembled of them is the program. -/
theorem asm_prog (c : Prg) (hc : prgB c = true) (toks : List Tok) (hok : ∀ t ∈ toks, t.Ok) (hnd : (namesT toks).Nodup) (hnl : ∀ t ∈ toks, Nl t.text)
    (hrows : (rowsT toks 1).map (fun r => (r.1, r.2.1)) = c.l.map (rowI c)) (hl : ∀ (j : Int) (x : List UInt8), 0 ≤ j → j < c.l.length → x ∈ labsAt c j → (x, j) ∈ labsT toks 0) :
    asmL ((toks.map Tok.text).flatMap fun s => s ++ [10]) = (c, 0, 0) := by
  unfold prgB at hc
  simp only [Bool.and_eq_true, decide_eq_true_eq, List.all_eq_true] at hc
  obtain ⟨c1, c2, c3, c4, c5, c6, c7⟩ := hc
  have hlen : (rowsT toks 1).length = c.l.length := by
    have := congrArg List.length hrows
    simpa using this
  have hp := pieces_lines (toks.map Tok.text) (by
    intro s hs
    obtain ⟨t, ht, rfl⟩ := List.mem_map.1 hs
    exact hnl t ht)
  have h1 := asm1_toks toks 1 [] [] hok (by simpa using hnd) (by simpa [hlen] using c2)
  simp only [List.nil_append, List.length_nil, Int.ofNat_zero] at h1
  have hfnd : ∀ (j : Int) (x : List UInt8), 0 ≤ j → j < c.l.length → x ∈ labsAt c j → findL (labsT toks 0) x c.l.length = j := fun j x j0 j1 hx =>
    find_mem _ _ _ _ (by rw [names_labs]; exact hnd) (hl j x j0 j1 hx) j1
  have hlo : findL (labsT toks 0) lockW c.l.length = c.lo := hfnd c.lo lockW c3 c5 (by unfold labsAt; simp)
  have hun : findL (labsT toks 0) unlockW c.l.length = c.un := hfnd c.un unlockW c4 c6 (by unfold labsAt; simp)
  have hgo : ∀ i ∈ c.l, goesB i = true → findL (labsT toks 0) (labelL c i.pl) c.l.length = i.pl := fun i hi hg =>
    hfnd i.pl _ (goes_pl (c7 i hi) hg).1 (goes_pl (c7 i hi) hg).2 (label_at c i hi hg)
  have h2 : asm2 (labsT toks 0) c.l.length (rowsT toks 1) = .inr c.l := by
    have e : ∀ r ∈ rowsT toks 1, ∃ i ∈ c.l, (r.1, r.2.1) = rowI c i := fun r hr => by
      have : (r.1, r.2.1) ∈ c.l.map (rowI c) := by rw [← hrows]; exact List.mem_map.2 ⟨r, hr, rfl⟩
      obtain ⟨i, hi, he⟩ := List.mem_map.1 this
      exact ⟨i, hi, he.symm⟩
    rw [asm2_all]
    · congr 1
      have e2 : (rowsT toks 1).map (fun r => if r.2.1 = [] then r.1 else { r.1 with pl := findL (labsT toks 0) r.2.1 c.l.length }) =
          ((rowsT toks 1).map fun r => (r.1, r.2.1)).map (finQ (labsT toks 0) c.l.length) := by
        rw [List.map_map]; rfl
      rw [e2, hrows, List.map_map]
      conv => rhs; rw [← List.map_id c.l]
      refine List.map_congr_left fun i hi => ?_
      show finQ (labsT toks 0) c.l.length (rowI c i) = i
      by_cases hg : goesB i = true
      · rw [show rowI c i = ({ i with pl := 0 }, labelL c i.pl) from if_pos hg]
        unfold finQ
        simp only
        rw [if_neg (label_ne c _), hgo i hi hg]
      · rw [show rowI c i = (i, []) from if_neg hg]
        rfl
    · intro r hr
      obtain ⟨i, hi, he⟩ := e r hr
      unfold rowI at he
      by_cases hg : goesB i = true
      · rw [if_pos hg] at he
        injection he with e3 e4
        right
        rw [e4, hgo i hi hg]
        exact (goes_pl (c7 i hi) hg).1
      · rw [if_neg hg] at he
        injection he with e3 e4
        exact .inl e4
  unfold asmL
  rw [hp, List.dropLast_concat, h1]
  simp only [List.getLastD_concat, hlen, h2, hlo, hun]
  rw [if_neg (by simp), if_neg (by omega)]
end Go.Proofs.YteohnkilchkhkaaGreatDoor
