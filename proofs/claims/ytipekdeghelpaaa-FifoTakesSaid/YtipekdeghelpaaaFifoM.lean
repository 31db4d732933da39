/- Layer 13 as plain lists: what the document says of a trace, entry by entry, and the same as a machine that goes on from entry to entry: over any program. No walk stands here. -/
import Derived.Test.YtipekdeghelpaaaEnM
import Derived.Test.YtipekdeghelpaaaRows
namespace Go.Proofs.Ytipekdeghelpaaa
set_option linter.unusedVariables false

/-- The kind of a thread's last entry (0: it has none). -/
def lastD (l : List En) (t : Int) : Int := l.foldl (fun k x => if x.th = t then x.kind else k) 0
theorem lastD_nil (t : Int) : lastD [] t = 0 := rfl
theorem lastD_snoc (l : List En) (x : En) (t : Int) : lastD (l ++ [x]) t = if x.th = t then x.kind else lastD l t := by simp [lastD, List.foldl_append]
/-- Does the i'th entry stand for one who is in the queue? -/
def qAt (l : List En) (i : Nat) : Option Int := match l[i]? with
  | some x => if x.kind = 2 ∧ lastD l x.th = 2 ∧ lastD (l.drop (i + 1)) x.th = 0 then some x.th else none
  | none => none
def queueD (l : List En) : List Int := (List.range l.length).filterMap (qAt l)
/-- One who is granted, holds or leaves. -/
def ownK (k : Int) : Bool := decide (k = 3 ∨ k = 5 ∨ k = 8)
def ownerD (l : List En) : Int := match l.reverse.find? (fun x => ownK (lastD l x.th)) with
  | some x => x.th
  | none => -1
/-- Does an entry fit, as far as its tick goes? -/
def nowD (l : List En) (x : En) : Prop := 0 ≤ x.now ∧ match l.getLast? with
  | some y => y.now ≤ x.now
  | none => True
/-- Does an entry fit behind others that do? -/
def kindD (last : Int) (q : List Int) (ow : Int) (x : En) : Prop :=
  (x.kind = 1 ∧ (last = 0 ∨ last = 6 ∨ last = 7 ∨ last = 10)) ∨ ((x.kind = 2 ∨ x.kind = 7) ∧ last = 1) ∨ (x.kind = 3 ∧ last = 2 ∧ q.head? = some x.th ∧ ow = -1) ∨ (x.kind = 4 ∧ last = 2) ∨
  (x.kind = 5 ∧ last = 3) ∨ (x.kind = 6 ∧ last = 4) ∨ (x.kind = 8 ∧ last = 5) ∨ (x.kind = 9 ∧ last = 8) ∨ (x.kind = 10 ∧ last = 9)
instance (last : Int) (q : List Int) (ow : Int) (x : En) : Decidable (kindD last q ow x) := by unfold kindD; infer_instance
instance (l : List En) (x : En) : Decidable (nowD l x) := by
  unfold nowD
  cases l.getLast? <;> infer_instance
def fitsD (n : Int) (l : List En) (x : En) : Prop := 0 ≤ x.th ∧ x.th < n ∧ nowD l x ∧ kindD (lastD l x.th) (queueD l) (ownerD l) x
instance (n : Int) (l : List En) (x : En) : Decidable (fitsD n l x) := by unfold fitsD; infer_instance
/-- All fit. -/
def Trace (n : Int) (l : List En) : Prop := ∀ k x, l[k]? = some x → fitsD n (l.take k) x

/-- The machine: each thread's last entry, the queue, the owner (-1: none). -/
structure Fa where
  la : Int → Int
  q : List Int
  ow : Int
def fa0 : Fa := ⟨fun _ => 0, [], -1⟩
def faStep (a : Fa) (x : En) : Fa :=
  ⟨fun t => if x.th = t then x.kind else a.la t, a.q.filter (fun t => t != x.th) ++ (if x.kind = 2 then [x.th] else []), if ownK x.kind then x.th else if x.th = a.ow then -1 else a.ow⟩
def faRun (l : List En) : Fa := l.foldl faStep fa0
def fitsA (n : Int) (a : Fa) (x : En) : Prop := 0 ≤ x.th ∧ x.th < n ∧ kindD (a.la x.th) a.q a.ow x
theorem faRun_snoc (l : List En) (x : En) : faRun (l ++ [x]) = faStep (faRun l) x := by simp [faRun, List.foldl_append]
theorem faRun_nil : faRun [] = fa0 := rfl

theorem snoc_ind {α : Type} {P : List α → Prop} (h0 : P []) (h1 : ∀ l x, P l → P (l ++ [x])) (l : List α) : P l := by
  have : ∀ n (l : List α), l.length = n → P l := by
    intro n
    induction n with
    | zero => intro l h; rw [List.eq_nil_of_length_eq_zero h]; exact h0
    | succ n ih =>
      intro l h
      have hne : l ≠ [] := fun e => by rw [e] at h; simp at h
      rw [← List.dropLast_concat_getLast hne]
      exact h1 _ _ (ih _ (by simp [h]))
  exact this _ l rfl

theorem la_is (l : List En) : (faRun l).la = lastD l := by
  refine snoc_ind (P := fun l => (faRun l).la = lastD l) ?_ ?_ l
  · rfl
  · intro l x ih
    funext t
    rw [faRun_snoc, lastD_snoc]
    show (if x.th = t then x.kind else (faRun l).la t) = _
    rw [ih]

theorem qAt_snoc (l : List En) (x : En) (i : Nat) (hi : i < l.length) : qAt (l ++ [x]) i = (qAt l i).filter (fun t => t != x.th) := by
  unfold qAt
  rw [List.getElem?_append_left hi, List.getElem?_eq_getElem hi]
  simp only
  have hd : (l ++ [x]).drop (i + 1) = l.drop (i + 1) ++ [x] := by rw [List.drop_append_of_le_length (by omega)]
  rw [hd, lastD_snoc, lastD_snoc]
  generalize l[i] = y
  by_cases e : x.th = y.th
  · rw [if_pos e, if_pos e]
    rw [if_neg (by omega)]
    split
    · simp only [Option.filter_some]
      have : (y.th != x.th) = false := by simp [e]
      rw [this]; rfl
    · rfl
  · rw [if_neg e, if_neg e]
    split
    · simp only [Option.filter_some]
      have : (y.th != x.th) = true := by simp; exact fun h => e h.symm
      rw [this]; rfl
    · rfl
theorem filterMap_filter {α β : Type} (f : α → Option β) (p : β → Bool) (l : List α) : l.filterMap (fun a => (f a).filter p) = (l.filterMap f).filter p := by
  induction l with
  | nil => rfl
  | cons a l ih =>
    simp only [List.filterMap_cons, ih]
    cases h : f a with
    | none => simp
    | some b =>
      simp only [Option.filter_some]
      cases hp : p b <;> simp [hp]
theorem filterMap_same {α β : Type} {f g : α → Option β} : ∀ l : List α, (∀ a ∈ l, f a = g a) → l.filterMap f = l.filterMap g
  | [], _ => rfl
  | a :: l, h => by
    rw [List.filterMap_cons, List.filterMap_cons, h a (by simp), filterMap_same l fun b hb => h b (by simp [hb])]
theorem lastD_one (x : En) : lastD [x] x.th = x.kind := by simp [lastD]
theorem queueD_snoc (l : List En) (x : En) : queueD (l ++ [x]) = (queueD l).filter (fun t => t != x.th) ++ (if x.kind = 2 then [x.th] else []) := by
  unfold queueD
  rw [List.length_append, List.length_singleton, List.range_succ, List.filterMap_append]
  congr 1
  · rw [← filterMap_filter]
    refine filterMap_same _ fun i hi => ?_
    exact qAt_snoc l x i (List.mem_range.1 hi)
  · have : qAt (l ++ [x]) l.length = if x.kind = 2 then some x.th else none := by
      unfold qAt
      rw [List.getElem?_append_right (Nat.le_refl _), Nat.sub_self]
      simp only [List.getElem?_cons_zero]
      rw [lastD_snoc, if_pos rfl, List.drop_of_length_le (by simp), lastD_nil]
      by_cases e : x.kind = 2 <;> simp [e]
    simp only [List.filterMap_cons, List.filterMap_nil, this]
    by_cases e : x.kind = 2 <;> simp [e]
theorem q_is (l : List En) : (faRun l).q = queueD l := by
  refine snoc_ind (P := fun l => (faRun l).q = queueD l) ?_ ?_ l
  · rfl
  · intro l x ih
    rw [faRun_snoc, queueD_snoc, ← ih]; rfl

theorem trace_nil (n : Int) : Trace n [] := fun k x h => by simp at h
theorem trace_snoc {n : Int} {l : List En} {x : En} : Trace n (l ++ [x]) ↔ Trace n l ∧ fitsD n l x := by
  constructor
  · intro h
    refine ⟨fun k y hk => ?_, ?_⟩
    · have hlt : k < l.length := (List.getElem?_eq_some_iff.1 hk).1
      have := h k y (by rw [List.getElem?_append_left hlt]; exact hk)
      rwa [List.take_append_of_le_length (by omega)] at this
    · have := h l.length x (by simp)
      rwa [List.take_append_of_le_length (Nat.le_refl _), List.take_length] at this
  · rintro ⟨h1, h2⟩ k y hk
    by_cases hlt : k < l.length
    · rw [List.getElem?_append_left hlt] at hk
      rw [List.take_append_of_le_length (by omega)]
      exact h1 k y hk
    · have hkl : k = l.length := by
        have := (List.getElem?_eq_some_iff.1 hk).1
        simp at this; omega
      subst hkl
      rw [List.getElem?_append_right (Nat.le_refl _), Nat.sub_self] at hk
      simp at hk
      subst hk
      rw [List.take_append_of_le_length (Nat.le_refl _), List.take_length]
      exact h2

/-- In a trace just one is the owner: the one whose last entry says so. -/
def OwnP (n : Int) (l : List En) : Prop := Trace n l → (∀ t, ownK (lastD l t) = true ↔ ((faRun l).ow = t ∧ 0 ≤ t)) ∧ (faRun l).ow = ownerD l ∧ -1 ≤ (faRun l).ow ∧ (∀ x ∈ l, 0 ≤ x.th)
theorem owner_iff {n : Int} (l : List En) : OwnP n l := by
  refine snoc_ind (P := OwnP n) ?_ ?_ l
  · intro _
    refine ⟨fun t => ?_, rfl, by simp [faRun, fa0], by simp⟩
    simp only [lastD_nil, faRun_nil, fa0]
    constructor
    · intro h; simp [ownK] at h
    · rintro ⟨h1, h2⟩; omega
  · intro l x ih h
    obtain ⟨hl, f0, f1, f2, fk⟩ := trace_snoc.1 h
    obtain ⟨i1, i2, i3, i4⟩ := ih hl
    have hA : ∀ t, ownK (lastD (l ++ [x]) t) = true ↔ ((faRun (l ++ [x])).ow = t ∧ 0 ≤ t) := by
      intro t
      rw [lastD_snoc, faRun_snoc]
      show _ ↔ ((if ownK x.kind then x.th else if x.th = (faRun l).ow then -1 else (faRun l).ow) = t ∧ 0 ≤ t)
      by_cases ho : ownK x.kind = true
      · rw [if_pos ho]
        by_cases e : x.th = t
        · subst e; rw [if_pos rfl]; simp [ho, f0]
        · rw [if_neg e, i1 t]
          constructor
          · rintro ⟨e1, e2⟩
            exfalso
            -- another one owns it: then x isn't one of these
            unfold kindD at fk
            have hk : x.kind = 3 ∨ x.kind = 5 ∨ x.kind = 8 := of_decide_eq_true ho
            rcases hk with hk | hk | hk
            · rw [← i2] at fk; omega
            · have hx : ownK (lastD l x.th) = true := by
                unfold ownK; refine decide_eq_true ?_; omega
              have := (i1 x.th).1 hx
              omega
            · have hx : ownK (lastD l x.th) = true := by
                unfold ownK; refine decide_eq_true ?_; omega
              have := (i1 x.th).1 hx
              omega
          · rintro ⟨e1, _⟩; exact absurd e1 e
      · rw [if_neg ho]
        by_cases e : x.th = t
        · subst e
          rw [if_pos rfl]
          constructor
          · intro h2; exact absurd h2 ho
          · rintro ⟨e1, e2⟩
            exfalso
            split at e1 <;> omega
        · rw [if_neg e, i1 t]
          constructor
          · rintro ⟨e1, e2⟩
            refine ⟨?_, e2⟩
            rw [if_neg (by omega)]; exact e1
          · rintro ⟨e1, e2⟩
            refine ⟨?_, e2⟩
            split at e1 <;> omega
    have hI4 : ∀ y ∈ l ++ [x], 0 ≤ y.th := by
      intro y hy
      rcases List.mem_append.1 hy with hy | hy
      · exact i4 y hy
      · simp at hy; subst hy; exact f0
    have hI3 : -1 ≤ (faRun (l ++ [x])).ow := by
      rw [faRun_snoc]
      show -1 ≤ (if ownK x.kind then x.th else if x.th = (faRun l).ow then -1 else (faRun l).ow)
      split
      · omega
      · split <;> omega
    refine ⟨hA, ?_, hI3, hI4⟩
    unfold ownerD
    cases hf : (l ++ [x]).reverse.find? (fun y => ownK (lastD (l ++ [x]) y.th)) with
    | some y =>
      have := List.find?_some hf
      exact ((hA y.th).1 this).1
    | none =>
      simp only
      rw [List.find?_eq_none] at hf
      by_cases hc : (faRun (l ++ [x])).ow = -1
      · exact hc
      · exfalso
        have h2 := (hA (faRun (l ++ [x])).ow).2 ⟨rfl, by omega⟩
        -- it has an entry, for its last one isn't 0
        have hex : ∃ y ∈ l ++ [x], y.th = (faRun (l ++ [x])).ow := by
          by_cases hn : ∃ y ∈ l ++ [x], y.th = (faRun (l ++ [x])).ow
          · exact hn
          · exfalso
            have h0 : ∀ (m : List En), (∀ y ∈ m, ¬ y.th = (faRun (l ++ [x])).ow) → lastD m (faRun (l ++ [x])).ow = 0 := by
              intro m
              refine snoc_ind (P := fun m => (∀ y ∈ m, ¬ y.th = (faRun (l ++ [x])).ow) → lastD m (faRun (l ++ [x])).ow = 0) ?_ ?_ m
              · intro _; rfl
              · intro m z ihm hm
                rw [lastD_snoc, if_neg (hm z (by simp))]
                exact ihm fun y hy => hm y (by simp [hy])
            rw [h0 _ (fun y hy e => hn ⟨y, hy, e⟩)] at h2
            simp [ownK] at h2
        obtain ⟨y, hy, e⟩ := hex
        have := hf y (by rw [List.mem_reverse]; exact hy)
        rw [e, h2] at this
        exact this rfl

theorem fits_iff {n : Int} {l : List En} {x : En} (h : Trace n l) : fitsD n l x ↔ nowD l x ∧ fitsA n (faRun l) x := by
  unfold fitsD fitsA
  rw [la_is, q_is, (owner_iff l h).2.1]
  constructor
  · rintro ⟨a, b, c, d⟩; exact ⟨c, a, b, d⟩
  · rintro ⟨c, a, b, d⟩; exact ⟨a, b, c, d⟩
/-- Entries of the same tick. -/
theorem trace_more {n : Int} {l : List En} {x : En} (h : Trace n l) (hl : ∀ y ∈ l, y.now = 0) (hx : x.now = 0) (hf : fitsA n (faRun l) x) : Trace n (l ++ [x]) := by
  rw [trace_snoc]
  refine ⟨h, (fits_iff h).2 ⟨⟨by omega, ?_⟩, hf⟩⟩
  cases hg : l.getLast? with
  | none => trivial
  | some y =>
    have := hl y (List.mem_of_getLast? hg)
    show y.now ≤ x.now
    omega

/-- Who is in the queue: those whose last entry is an Enq; each once, each a thread. -/
theorem mem_q {n : Int} (l : List En) (h : Trace n l) : (∀ t, t ∈ (faRun l).q ↔ lastD l t = 2) ∧ (faRun l).q.Nodup ∧ (∀ t ∈ (faRun l).q, 0 ≤ t ∧ t < n) := by
  refine snoc_ind (P := fun l => Trace n l → (∀ t, t ∈ (faRun l).q ↔ lastD l t = 2) ∧ (faRun l).q.Nodup ∧ (∀ t ∈ (faRun l).q, 0 ≤ t ∧ t < n)) ?_ ?_ l h
  · intro _
    simp [faRun, fa0, lastD]
  · intro l x ih h
    obtain ⟨hl, f0, f1, f2, fk⟩ := trace_snoc.1 h
    obtain ⟨i1, i2, i3⟩ := ih hl
    have e : (faRun (l ++ [x])).q = (faRun l).q.filter (fun t => t != x.th) ++ (if x.kind = 2 then [x.th] else []) := by rw [faRun_snoc]; rfl
    rw [e]
    have hm : ∀ t, t ∈ (faRun l).q.filter (fun t => t != x.th) ↔ (t ∈ (faRun l).q ∧ t ≠ x.th) := fun t => by simp [List.mem_filter]
    refine ⟨fun t => ?_, ?_, fun t ht => ?_⟩
    · rw [lastD_snoc, List.mem_append, hm, i1]
      by_cases et : x.th = t
      · subst et
        by_cases ek : x.kind = 2 <;> simp [ek]
      · rw [if_neg et]
        have et2 : ¬ t = x.th := fun e => et e.symm
        by_cases ek : x.kind = 2 <;> simp [ek, et2]
    · refine List.nodup_append.2 ⟨i2.filter _, by split <;> simp, fun a ha b hb => ?_⟩
      have := (hm a).1 ha
      split at hb
      · simp at hb; subst hb; exact this.2
      · simp at hb
    · rcases List.mem_append.1 ht with ht | ht
      · exact i3 t ((hm t).1 ht).1
      · split at ht
        · simp at ht; subst ht; exact ⟨f0, f1⟩
        · simp at ht
theorem nodup_few : ∀ (k : Nat) (l : List Int), l.Nodup → (∀ t ∈ l, 0 ≤ t ∧ t < (k : Int)) → l.length ≤ k
  | 0, l, _, h => by
    cases l with
    | nil => simp
    | cons q r => have := h q (by simp); omega
  | k + 1, l, hd, h => by
    have h1 := nodup_few k (l.erase (k : Int)) (hd.erase _) (fun q hq => by
      have hm := hd.mem_erase_iff.1 hq
      have := h q hm.2
      have := hm.1
      omega)
    by_cases hm : (k : Int) ∈ l
    · have := List.length_erase_of_mem hm; omega
    · rw [List.erase_of_not_mem hm] at h1; omega
/-- One who isn't in the queue doesn't leave it. -/
theorem filter_not {q : List Int} {t : Int} (h : t ∉ q) : q.filter (fun x => x != t) = q := by
  rw [List.filter_eq_self]
  intro a ha
  have : a ≠ t := fun e => h (e ▸ ha)
  simpa using this
theorem filter_head {q : List Int} {t : Int} (h : (t :: q).Nodup) : (t :: q).filter (fun x => x != t) = q := by
  rw [List.filter_cons]
  simp only [bne_self_eq_false, Bool.false_eq_true, if_false]
  exact filter_not (List.nodup_cons.1 h).1

/-- Who has an entry is a thread. -/
theorem last_thread {n : Int} (l : List En) (h : Trace n l) (t : Int) (ht : lastD l t ≠ 0) : 0 ≤ t ∧ t < n := by
  revert ht
  refine snoc_ind (P := fun l => Trace n l → lastD l t ≠ 0 → 0 ≤ t ∧ t < n) ?_ ?_ l h
  · intro _ h0; exact absurd rfl h0
  · intro l x ih h h0
    obtain ⟨hl, f0, f1, _⟩ := trace_snoc.1 h
    rw [lastD_snoc] at h0
    split at h0
    · omega
    · exact ih hl h0

section
variable {n : Int} {l : List En} {x : En}
theorem q_other (h : Trace n l) (hk : x.kind ≠ 2) (hl : lastD l x.th ≠ 2) : (faRun (l ++ [x])).q = (faRun l).q := by
  rw [faRun_snoc]
  show (faRun l).q.filter _ ++ _ = _
  rw [filter_not (fun hm => hl (((mem_q l h).1 _).1 hm)), if_neg hk, List.append_nil]
theorem q_enq (h : Trace n l) (hk : x.kind = 2) (hl : lastD l x.th ≠ 2) : (faRun (l ++ [x])).q = (faRun l).q ++ [x.th] := by
  rw [faRun_snoc]
  show (faRun l).q.filter _ ++ _ = _
  rw [filter_not (fun hm => hl (((mem_q l h).1 _).1 hm)), if_pos hk]
theorem q_head {rest : List Int} (h : Trace n l) (hk : x.kind ≠ 2) (hq : (faRun l).q = x.th :: rest) : (faRun (l ++ [x])).q = rest := by
  have hd := (mem_q l h).2.1
  rw [faRun_snoc]
  show (faRun l).q.filter _ ++ _ = _
  rw [hq] at hd ⊢
  rw [filter_head hd, if_neg hk, List.append_nil]
theorem q_leave (hk : x.kind ≠ 2) : (faRun (l ++ [x])).q = (faRun l).q.filter (fun t => t != x.th) := by
  rw [faRun_snoc]
  show (faRun l).q.filter _ ++ _ = _
  rw [if_neg hk, List.append_nil]
theorem ow_take (hk : ownK x.kind = true) : (faRun (l ++ [x])).ow = x.th := by
  rw [faRun_snoc]
  show (if ownK x.kind then x.th else _) = _
  rw [if_pos hk]
theorem ow_other (h : Trace n l) (h0 : 0 ≤ x.th) (hk : ownK x.kind = false) (hl : ownK (lastD l x.th) = false) : (faRun (l ++ [x])).ow = (faRun l).ow := by
  have h1 := (owner_iff l h).1 x.th
  rw [faRun_snoc]
  show (if ownK x.kind then x.th else if x.th = (faRun l).ow then -1 else (faRun l).ow) = _
  rw [if_neg (by simp [hk])]
  by_cases e : x.th = (faRun l).ow
  · have := h1.2 ⟨e.symm, h0⟩
    rw [hl] at this; cases this
  · rw [if_neg e]
theorem ow_none (h : Trace n l) (hk : ownK x.kind = false) (hl : ownK (lastD l x.th) = true) : (faRun (l ++ [x])).ow = -1 := by
  have h1 := ((owner_iff l h).1 x.th).1 hl
  rw [faRun_snoc]
  show (if ownK x.kind then x.th else if x.th = (faRun l).ow then -1 else (faRun l).ow) = _
  rw [if_neg (by simp [hk]), if_pos h1.1.symm]
/-- Just one is the owner. -/
theorem ow_only (h : Trace n l) {s t : Int} (hs : ownK (lastD l s) = true) (ht : ownK (lastD l t) = true) : s = t := by
  have h1 := ((owner_iff l h).1 s).1 hs
  have h2 := ((owner_iff l h).1 t).1 ht
  omega
theorem ow_is (h : Trace n l) {t : Int} (ht : ownK (lastD l t) = true) : (faRun l).ow = t := (((owner_iff l h).1 t).1 ht).1
theorem last_other (k : Int) (s t : Nat) (c : Int) (h : s ≠ t) : lastD (l ++ [⟨k, (t : Int), c⟩]) (s : Int) = lastD l s := by
  rw [lastD_snoc, if_neg (by show ¬ ((t : Int) = s); omega)]
theorem last_same (k t c : Int) : lastD (l ++ [⟨k, t, c⟩]) t = k := by rw [lastD_snoc]; simp
theorem now_more {k t : Int} (h : ∀ y ∈ l, y.now = 0) : ∀ y ∈ l ++ [⟨k, t, 0⟩], y.now = 0 := by
  intro y hy
  rcases List.mem_append.1 hy with hy | hy
  · exact h y hy
  · simp at hy; subst hy; rfl
end

/-- How many fit, from the first one on. -/
def checkD (n : Int) (l : List En) : Nat := ((List.range l.length).find? fun k => match l[k]? with
  | some x => !decide (fitsD n (l.take k) x)
  | none => false).getD l.length
theorem checkD_all {n : Int} {l : List En} (h : Trace n l) : checkD n l = l.length := by
  unfold checkD
  have : ((List.range l.length).find? fun k => match l[k]? with
    | some x => !decide (fitsD n (l.take k) x)
    | none => false) = none := by
    rw [List.find?_eq_none]
    intro k hk
    cases hx : l[k]? with
    | none => simp
    | some x => simp [h k x hx]
  rw [this]; rfl
end Go.Proofs.Ytipekdeghelpaaa

