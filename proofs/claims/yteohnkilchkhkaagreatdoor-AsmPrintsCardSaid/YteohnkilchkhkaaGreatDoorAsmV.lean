/- A program's own text, read byte by byte, with labels besides. -/
import Derived.Test.YteohnkilchkhkaaGreatDoorAsmU
namespace Go.Proofs.YteohnkilchkhkaaGreatDoor
open Go.ChangeShapes Go.WideShapes Go.ChangeAt Go.RowKit
set_option linter.unusedVariables false

/-- Labels besides, as text: the first m from number k on. -/
def xlabs (m k : Nat) : List UInt8 := (List.range m).flatMap fun j => xnameL (k + j) ++ [58, 10]
theorem xlabs_0 (k : Nat) : xlabs 0 k = [] := rfl
theorem xlabs_succ (m k : Nat) : xlabs (m + 1) k = xlabs m k ++ (xnameL (k + m) ++ [58, 10]) := by
  unfold xlabs
  rw [List.range_succ]
  simp
theorem xlabs_len : ∀ (m k : Nat), (xlabs m k).length = 5 * m
  | 0, k => rfl
  | m + 1, k => by rw [xlabs_succ, List.length_append, xlabs_len m k]; simp [xnameL]; omega

/-- The text with labels besides: what is still to be read, what is written, the line so far, the labels so far. -/
def goD (m : Nat) : List UInt8 → List UInt8 → List UInt8 → Nat → List UInt8
  | [], out, _, _ => out
  | b :: r, out, line, k => if b = 10 then goD m r (out ++ xlabs m k ++ (line ++ [10])) [] (k + m) else goD m r out (line ++ [b]) k
theorem goD_line (m : Nat) : ∀ (s r out line : List UInt8) (k : Nat), Nl s → goD m (s ++ 10 :: r) out line k = goD m r (out ++ xlabs m k ++ (line ++ s ++ [10])) [] (k + m)
  | [], r, out, line, k, _ => by simp [goD]
  | b :: s, r, out, line, k, h => by
    have hb : b ≠ 10 := h b List.mem_cons_self
    have ih := goD_line m s r out (line ++ [b]) k fun c hc => h c (List.mem_cons_of_mem _ hc)
    rw [List.cons_append, goD, if_neg hb, ih]
    simp
theorem goD_all (m : Nat) : ∀ (ls : List (List UInt8)) (out : List UInt8) (k : Nat), (∀ s ∈ ls, Nl s) → goD m (ls.flatMap fun s => s ++ [10]) out [] k = out ++ (decoL m ls k).flatMap fun s => s ++ [10]
  | [], out, k, _ => by simp [goD, decoL]
  | s :: ls, out, k, h => by
    have ih := goD_all m ls (out ++ xlabs m k ++ ([] ++ s ++ [10])) (k + m) fun x hx => h x (List.mem_cons_of_mem _ hx)
    rw [List.flatMap_cons, List.append_assoc, List.singleton_append, goD_line m s _ out [] k (h s List.mem_cons_self), ih, decoL]
    unfold xlabs
    simp [List.flatMap_append, List.flatMap_map]
theorem goD_drop (m : Nat) (s out line : List UInt8) (k j : Nat) (h : j < s.length) : goD m (s.drop j) out line k = if s.getD j 0 = 10 then goD m (s.drop (j + 1)) (out ++ xlabs m k ++ (line ++ [10])) [] (k + m) else goD m (s.drop (j + 1)) out (line ++ [s.getD j 0]) k := by
  rw [List.drop_eq_getElem_cons h, goD]
  simp [List.getD_eq_getElem?_getD, h]

theorem deco_len (m : Nat) (hm : m ≤ 2) : ∀ (ls : List (List UInt8)) (k : Nat), ((decoL m ls k).flatMap fun s => s ++ [10]).length ≤ (ls.flatMap fun s => s ++ [10]).length + 10 * ls.length
  | [], k => by simp [decoL]
  | s :: ls, k => by
    have ih := deco_len m hm ls (k + m)
    have h1 : (((List.range m).map fun j => xnameL (k + j) ++ [58]).flatMap fun s => s ++ [10]).length = 5 * m := by
      rw [← xlabs_len m k]
      unfold xlabs
      simp [List.flatMap_map]
    rw [decoL, List.flatMap_append, List.length_append, h1, List.flatMap_cons, List.flatMap_cons]
    simp only [List.length_append, List.length_cons, List.length_nil]
    omega

theorem lines_nl (c : Prg) (hc : prgB c = true) (hk : ∀ i ∈ c.l, 0 ≤ i.k ∧ i.k < 4294967296) : ∀ s ∈ linesFrom c c.l 0, Nl s := by
  obtain ⟨h1, h2⟩ := prg_facts hc
  have hok := toks_ok c h1 c.l 0 (by omega) (by omega) fun i hi => ⟨h2 i hi, hk i hi⟩
  rw [← toks_text]
  intro s hs
  obtain ⟨t, ht, rfl⟩ := List.mem_map.1 hs
  exact (hok t ht).2
theorem own_len (c : Prg) : (linesFrom c c.l 0).length ≤ 4 * c.l.length := by
  have := toks_len c c.l 0
  rw [← toks_text, List.length_map]
  exact this

theorem print_len (c : Prg) (hc : prgB c = true) (hw : ∀ i ∈ c.l, i.Wf) : (printL c).length ≤ 64064 := by
  obtain ⟨h1, h2⟩ := prg_facts hc
  have key : ∀ k, k ≤ c.l.length → (txF c k).length ≤ k * 501 := by
    intro k
    induction k with
    | zero => intro _; unfold txF; simp [linesFrom]
    | succ k ih =>
      intro hk
      have h3 := ih (by omega)
      have h4 := labsTx_len c (p := (k : Int)) (by omega) (by omega)
      have hm : c.l[k] ∈ c.l := List.getElem_mem (by omega)
      have h5 := insLine_len c c.l[k] (hw _ hm) fun hg => by
        have := goes_pl (h2 _ hm) hg
        omega
      rw [txF_step c k (by omega)]
      simp
      omega
  have h3 := key c.l.length (Nat.le_refl _)
  unfold txF at h3
  rw [List.take_length] at h3
  unfold printL
  omega

/-- What the labels besides make of a program's own text. -/
theorem goD_print (c : Prg) (hc : prgB c = true) (hw : ∀ i ∈ c.l, i.Wf) (m : Nat) (hm : m ≤ 2) : asmL (goD m (printL c) [] [] 0) = (c, 0, 0) ∧ (goD m (printL c) [] [] 0).length < 80000 := by
  have hk : ∀ i ∈ c.l, 0 ≤ i.k ∧ i.k < 4294967296 := fun i hi => ⟨(hw i hi).k0, (hw i hi).k1⟩
  obtain ⟨h1, _⟩ := prg_facts hc
  have e : goD m (printL c) [] [] 0 = (decoL m (linesFrom c c.l 0) 0).flatMap fun s => s ++ [10] := by
    unfold printL
    rw [goD_all m _ _ _ (lines_nl c hc hk)]
    rfl
  rw [e]
  refine ⟨asm_deco c hc hk m hm, ?_⟩
  have h2 := deco_len m hm (linesFrom c c.l 0) 0
  have h3 := print_len c hc hw
  have h4 := own_len c
  unfold printL at h3
  omega

theorem run_str2 (W : World) (b : Nat) (c d : UInt8) (h : W.cell? ⟨b, 0, none⟩ = some (.int .u8 (c.toNat : Int))) (h2 : W.cell? ⟨b, 1, none⟩ = some (.int .u8 (d.toNat : Int))) :
    (convert 42 9 (.slice (some ⟨b, 0, none⟩) 2 2)).run Tryz.prog W = .ok (.string ⟨#[c, d]⟩) W :=
  run_convert_bytes_back W 42 9 5 ⟨b, 0, none⟩ 2 [c, d] Tryz.underlying42 Tryz.underlying5 Tryz.underlying9 (fun j hj => by
    simp only [List.length_cons, List.length_nil] at hj
    match j, hj with
    | 0, _ => exact h
    | 1, _ => exact h2)
end Go.Proofs.YteohnkilchkhkaaGreatDoor
