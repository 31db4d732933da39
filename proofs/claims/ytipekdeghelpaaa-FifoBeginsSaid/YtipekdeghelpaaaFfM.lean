/- Layer 13's program as plain lists: states, queue, the last tick; what fits; that it is what the document says of the entries that fitted. Over any program; no walk stands here. -/
import Derived.Test.YtipekdeghelpaaaFifoM
namespace Go.Proofs.Ytipekdeghelpaaa
set_option linter.unusedVariables false

/-- The state of a thread whose last entry is of a kind. -/
def stK (k : Int) : Int := if k = 1 then 1 else if k = 2 then 2 else if k = 3 then 3 else if k = 4 then 5 else if k = 5 then 4 else if k = 8 then 6 else if k = 9 then 7 else 0
/-- From which state to which an entry of a kind leads; is there one? -/
def mvF (k : Int) : Int := if k = 1 then 0 else if k = 2 then 1 else if k = 3 then 2 else if k = 4 then 2 else if k = 5 then 3 else if k = 6 then 5 else if k = 7 then 1 else if k = 8 then 4 else if k = 9 then 6 else if k = 10 then 7 else 0
def mvT (k : Int) : Int := if k = 1 then 1 else if k = 2 then 2 else if k = 3 then 3 else if k = 4 then 5 else if k = 5 then 4 else if k = 6 then 0 else if k = 7 then 0 else if k = 8 then 6 else if k = 9 then 7 else 0
def mvB (k : Int) : Bool := decide (1 ≤ k) && decide (k ≤ 10)
/-- A state of the owner. -/
def ownS (s : Int) : Bool := decide (s = 3) || (decide (s = 4) || decide (s = 6))
def ownF (st : List Int) : Option Nat := st.findIdx? ownS
theorem ownF_none {st : List Int} (h : ∀ j, j < st.length → ownS (nth st j) = false) : ownF st = none := by
  unfold ownF
  rw [List.findIdx?_eq_none_iff]
  intro x hx
  obtain ⟨j, hj, rfl⟩ := List.getElem_of_mem hx
  rw [← nth_lt hj]; exact h j hj
theorem ownF_some {st : List Int} {k : Nat} (hk : k < st.length) (h1 : ownS (nth st k) = true) (h : ∀ j, j < k → ownS (nth st j) = false) : ownF st = some k := by
  unfold ownF
  rw [List.findIdx?_eq_some_iff_getElem]
  refine ⟨hk, by rw [← nth_lt hk]; exact h1, fun j hj => ?_⟩
  have hjl : j < st.length := by omega
  rw [← nth_lt hjl, h j hj]; simp
/-- Where a number stands first. -/
def idxI (q : List Int) (t : Int) : Int := match q.findIdx? (fun x => decide (x = t)) with
  | some i => (i : Int)
  | none => -1
theorem idxI_none {q : List Int} {t : Int} (h : ∀ j, j < q.length → nth q j ≠ t) : idxI q t = -1 := by
  unfold idxI
  have : q.findIdx? (fun x => decide (x = t)) = none := by
    rw [List.findIdx?_eq_none_iff]
    intro x hx
    obtain ⟨j, hj, rfl⟩ := List.getElem_of_mem hx
    rw [← nth_lt hj]; simpa using h j hj
  rw [this]
theorem idxI_some {q : List Int} {t : Int} {k : Nat} (hk : k < q.length) (h1 : nth q k = t) (h : ∀ j, j < k → nth q j ≠ t) : idxI q t = (k : Int) := by
  unfold idxI
  have : q.findIdx? (fun x => decide (x = t)) = some k := by
    rw [List.findIdx?_eq_some_iff_getElem]
    refine ⟨hk, by rw [← nth_lt hk, h1]; simp, fun j hj => ?_⟩
    have hjl : j < q.length := by omega
    rw [← nth_lt hjl]; simpa using h j hj
  rw [this]
theorem idxI_zero {q : List Int} {t : Int} : idxI q t = 0 ↔ q.head? = some t := by
  cases q with
  | nil => simp [idxI]
  | cons x q =>
    unfold idxI
    rw [List.findIdx?_cons]
    by_cases e : x = t
    · subst e; simp
    · simp only [e, decide_false, Bool.false_eq_true, if_false, List.head?_cons, Option.some.injEq]
      cases h : List.findIdx? (fun x => decide (x = t)) q with
      | none => simp
      | some i => simp; omega
/-- May a thread that is queued be granted the lock? -/
def nextB (st q : List Int) (t : Int) : Bool := (ownF st).isNone && decide (q.head? = some t)
/-- Does an entry fit? -/
def fitB (st q : List Int) (now : Int) (x : En) : Bool :=
  decide (0 ≤ x.th ∧ x.th < (st.length : Int)) && (decide (now ≤ x.now) && (mvB x.kind && (decide (nth st x.th.toNat = mvF x.kind) && (!decide (x.kind = 3) || nextB st q x.th))))
/-- The queue behind an entry that fits. -/
def qNext (q : List Int) (x : En) : List Int := if x.kind = 2 then q ++ [x.th] else if x.kind = 3 ∨ x.kind = 4 then q.filter (fun t => t != x.th) else q

/-- Both say the same: had are the entries that fitted. -/
structure Rep (n : Nat) (had : List En) (st q : List Int) (now : Int) : Prop where
  tr : Trace n had
  len : st.length = n
  st : ∀ i, i < n → nth st i = stK (lastD had i)
  q : q = queueD had
  now : now = match had.getLast? with
    | some y => y.now
    | none => 0
theorem rep_zero (n : Nat) : Rep n [] (List.replicate n 0) [] 0 := by
  refine ⟨trace_nil n, by simp, fun i hi => ?_, rfl, rfl⟩
  rw [nth_lt (by simpa using hi)]
  simp [lastD_nil, stK]
/-- In a trace each last entry's kind is one of the ten, or 0. -/
theorem last_range {n : Int} (l : List En) (h : Trace n l) (t : Int) : 0 ≤ lastD l t ∧ lastD l t ≤ 10 := by
  refine snoc_ind (P := fun l => Trace n l → 0 ≤ lastD l t ∧ lastD l t ≤ 10) ?_ ?_ l h
  · intro _; simp [lastD_nil]
  · intro l x ih h
    obtain ⟨hl, f0, f1, f2, fk⟩ := trace_snoc.1 h
    rw [lastD_snoc]
    split
    · unfold kindD at fk; omega
    · exact ih hl
theorem stK_own {k : Int} : ownS (stK k) = ownK k := by
  unfold stK ownS ownK
  by_cases h1 : k = 1
  · subst h1; decide
  by_cases h2 : k = 2
  · subst h2; decide
  by_cases h3 : k = 3
  · subst h3; decide
  by_cases h4 : k = 4
  · subst h4; decide
  by_cases h5 : k = 5
  · subst h5; decide
  by_cases h8 : k = 8
  · subst h8; decide
  by_cases h9 : k = 9
  · subst h9; decide
  simp [*]
section
variable {n : Nat} {had : List En} {st q : List Int} {now : Int} {x : En}
theorem Rep.ow (h : Rep n had st q now) : (ownF st = none ∧ ownerD had = -1) ∨ ∃ t : Nat, t < n ∧ ownF st = some t ∧ ownerD had = (t : Int) := by
  obtain ⟨o1, o2, o3, _⟩ := owner_iff (n := n) had h.tr
  rw [o2] at o1 o3
  by_cases e : ownerD had = -1
  · refine .inl ⟨ownF_none fun j hj => ?_, e⟩
    rw [h.st j (by rw [← h.len]; exact hj), stK_own]
    by_cases ho : ownK (lastD had (j : Int)) = true
    · have := (o1 j).1 ho; omega
    · simpa using ho
  · have h0 : 0 ≤ ownerD had := by omega
    have hk := (o1 _).2 ⟨rfl, h0⟩
    have hne : lastD had (ownerD had) ≠ 0 := by
      intro e; rw [e] at hk; simp [ownK] at hk
    have hlt := last_thread had h.tr _ hne
    obtain ⟨t, ht⟩ : ∃ t : Nat, ownerD had = (t : Int) := ⟨_, (Int.toNat_of_nonneg h0).symm⟩
    have htn : t < n := by omega
    refine .inr ⟨t, htn, ownF_some (by rw [h.len]; exact htn) ?_ (fun j hj => ?_), ht⟩
    · rw [h.st t htn, stK_own, ← ht]; exact hk
    · rw [h.st j (by omega), stK_own]
      by_cases ho : ownK (lastD had (j : Int)) = true
      · have := (o1 j).1 ho; omega
      · simpa using ho
theorem mvF_iff {last k : Int} (h : 0 ≤ last ∧ last ≤ 10) (q : List Int) (ow : Int) (x : En) (hx : x.kind = k) :
    (mvB k = true ∧ stK last = mvF k ∧ (k = 3 → q.head? = some x.th ∧ ow = -1)) ↔ kindD last q ow x := by
  unfold kindD
  rw [hx]
  have hl : last = 0 ∨ last = 1 ∨ last = 2 ∨ last = 3 ∨ last = 4 ∨ last = 5 ∨ last = 6 ∨ last = 7 ∨ last = 8 ∨ last = 9 ∨ last = 10 := by omega
  by_cases hk : 1 ≤ k ∧ k ≤ 10
  · have hb : mvB k = true := by unfold mvB; simp; exact hk
    have hk2 : k = 1 ∨ k = 2 ∨ k = 3 ∨ k = 4 ∨ k = 5 ∨ k = 6 ∨ k = 7 ∨ k = 8 ∨ k = 9 ∨ k = 10 := by omega
    rcases hl with rfl | rfl | rfl | rfl | rfl | rfl | rfl | rfl | rfl | rfl | rfl <;> rcases hk2 with rfl | rfl | rfl | rfl | rfl | rfl | rfl | rfl | rfl | rfl <;> simp [stK, mvF, mvB]
  · have hb : mvB k = false := by
      unfold mvB
      by_cases h1 : 1 ≤ k
      · have : ¬ k ≤ 10 := fun h2 => hk ⟨h1, h2⟩
        simp [this]
      · simp [h1]
    rw [hb]
    constructor
    · rintro ⟨e, _⟩; cases e
    · intro e; exfalso; omega
theorem Rep.fits (h : Rep n had st q now) : fitB st q now x = decide (fitsD n had x) := by
  have hiff : fitB st q now x = true ↔ fitsD n had x := by
    unfold fitsD
    have hnow : (now ≤ x.now) ↔ nowD had x := by
      rw [h.now]
      unfold nowD
      cases hg : had.getLast? with
      | none => simp
      | some y =>
        simp only
        have hy : 0 ≤ y.now := by
          obtain ⟨m, rfl⟩ : ∃ m, had = m ++ [y] := by
            have hne : had ≠ [] := by intro e; rw [e] at hg; simp at hg
            refine ⟨had.dropLast, ?_⟩
            rw [List.getLast?_eq_some_getLast hne] at hg
            injection hg with hg
            rw [← hg, List.dropLast_concat_getLast]
          exact (trace_snoc.1 h.tr).2.2.2.1.1
        omega
    unfold fitB
    simp only [Bool.and_eq_true, decide_eq_true_eq, h.len]
    rw [hnow]
    constructor
    · rintro ⟨⟨a, b⟩, c, d, e, f⟩
      refine ⟨a, b, c, ?_⟩
      have ht : x.th.toNat < n := by omega
      have hc : ((x.th.toNat : Nat) : Int) = x.th := by omega
      rw [h.st _ ht, hc] at e
      refine (mvF_iff (last_range had h.tr x.th) _ _ x rfl).1 ⟨d, e, fun hk => ?_⟩
      rw [hk] at f
      simp [nextB] at f
      rw [← h.q]
      refine ⟨f.2, ?_⟩
      rcases h.ow with ⟨_, o⟩ | ⟨t, _, o, _⟩
      · exact o
      · rw [o] at f; simp at f
    · rintro ⟨a, b, c, d⟩
      have ht : x.th.toNat < n := by omega
      have hc : ((x.th.toNat : Nat) : Int) = x.th := by omega
      obtain ⟨d1, d2, d3⟩ := (mvF_iff (last_range had h.tr x.th) _ _ x rfl).2 d
      refine ⟨⟨a, b⟩, c, d1, by rw [h.st _ ht, hc]; exact d2, ?_⟩
      by_cases hk : x.kind = 3
      · obtain ⟨d4, d5⟩ := d3 hk
        have ho : ownF st = none := by
          rcases h.ow with ⟨o, _⟩ | ⟨t, _, _, o⟩
          · exact o
          · omega
        simp [hk, nextB, ho, h.q, d4]
      · simp [hk]
  by_cases hf : fitsD n had x
  · rw [decide_eq_true hf]; exact hiff.2 hf
  · rw [decide_eq_false hf]
    rw [Bool.eq_false_iff]
    exact fun e => hf (hiff.1 e)
theorem mvT_st {k : Int} : mvT k = stK k := by
  unfold mvT stK
  repeat' split
  all_goals first | rfl | omega
theorem Rep.take (h : Rep n had st q now) (hf : fitsD n had x) : Rep n (had ++ [x]) (st.set x.th.toNat (mvT x.kind)) (qNext q x) x.now := by
  have hf2 := hf
  obtain ⟨a, b, c, d⟩ := hf
  have ht : x.th.toNat < n := by omega
  have hc : ((x.th.toNat : Nat) : Int) = x.th := by omega
  refine ⟨trace_snoc.2 ⟨h.tr, hf2⟩, by rw [List.length_set]; exact h.len, fun i hi => ?_, ?_, by simp⟩
  · rw [nth_set (by rw [h.len]; exact ht), lastD_snoc]
    by_cases e : x.th.toNat = i
    · rw [if_pos e, if_pos (by omega), mvT_st]
    · rw [if_neg e, if_neg (by omega), h.st i hi]
  · rw [queueD_snoc, ← h.q]
    have hm := (mem_q had h.tr).1 x.th
    rw [q_is, ← h.q] at hm
    unfold qNext
    by_cases h2 : x.kind = 2
    · rw [if_pos h2, if_pos h2, filter_not]
      intro e
      have := hm.1 e
      unfold kindD at d; omega
    · rw [if_neg h2, if_neg h2, List.append_nil]
      by_cases h3 : x.kind = 3 ∨ x.kind = 4
      · rw [if_pos h3]
      · rw [if_neg h3, filter_not]
        intro e
        have := hm.1 e
        unfold kindD at d; omega
theorem Rep.qlen (h : Rep n had st q now) : q.length ≤ n := by
  obtain ⟨_, m2, m3⟩ := mem_q had h.tr
  rw [q_is, ← h.q] at m2 m3
  exact nodup_few n q m2 m3
theorem Rep.qnd (h : Rep n had st q now) : q.Nodup := by
  obtain ⟨_, m2, _⟩ := mem_q had h.tr
  rw [q_is, ← h.q] at m2
  exact m2
theorem Rep.qmem (h : Rep n had st q now) : ∀ t ∈ q, 0 ≤ t ∧ t < (n : Int) := by
  obtain ⟨_, _, m3⟩ := mem_q had h.tr
  rw [q_is, ← h.q] at m3
  exact m3
end

/-- What was taken, entry by entry: those that fit. -/
def takeD (n : Int) (had : List En) (x : En) : List En := if fitsD n had x then had ++ [x] else had
theorem takeD_len (n : Int) (had : List En) (x : En) : (takeD n had x).length ≤ had.length + 1 := by
  unfold takeD; split <;> simp

def ckB (n : Int) (l : List En) (k : Nat) : Bool := match l[k]? with
  | some x => !decide (fitsD n (l.take k) x)
  | none => false
theorem checkD_eq (n : Int) (l : List En) : checkD n l = ((List.range l.length).find? (ckB n l)).getD l.length := rfl
/-- How many fit, from the first one on: where one doesn't. -/
theorem checkD_at {n : Int} {l : List En} {k : Nat} (hk : k < l.length) (h : Trace n (l.take k)) (hf : ¬ fitsD n (l.take k) l[k]) : checkD n l = k := by
  rw [checkD_eq]
  have : (List.range l.length).find? (ckB n l) = some k := by
    rw [List.find?_eq_some_iff_getElem]
    refine ⟨?_, k, by simpa using hk, by simp, fun j hj => ?_⟩
    · unfold ckB
      rw [List.getElem?_eq_getElem hk]
      simp [hf]
    · have hjl : j < l.length := by omega
      simp only [List.getElem_range]
      unfold ckB
      rw [List.getElem?_eq_getElem hjl]
      have := h j l[j] (by rw [List.getElem?_take, if_pos hj, List.getElem?_eq_getElem hjl])
      rw [List.take_take, show min j k = j by omega] at this
      simp [this]
  rw [this]; rfl
theorem checkD_le (n : Int) (l : List En) : checkD n l ≤ l.length := by
  rw [checkD_eq]
  cases h : (List.range l.length).find? (ckB n l) with
  | none => simp
  | some k =>
    have := List.mem_of_find?_eq_some h
    rw [List.mem_range] at this
    simp only [Option.getD_some]; omega
/-- .. the beginning of so many is a trace. -/
theorem checkD_trace (n : Int) (l : List En) : Trace n (l.take (checkD n l)) := by
  rw [checkD_eq]
  cases h : (List.range l.length).find? (ckB n l) with
  | none =>
    rw [List.find?_eq_none] at h
    simp only [Option.getD_none, List.take_length]
    intro k x hx
    have hk := (List.getElem?_eq_some_iff.1 hx).1
    have := h k (by simpa using hk)
    unfold ckB at this
    rw [hx] at this
    simpa using this
  | some k =>
    rw [List.find?_eq_some_iff_getElem] at h
    obtain ⟨_, i, hi, e, hlt⟩ := h
    simp only [List.getElem_range] at e
    subst e
    simp only [Option.getD_some]
    simp only [List.length_range] at hi
    intro j x hx
    rw [List.getElem?_take] at hx
    split at hx
    · rename_i hji
      have := hlt j hji
      simp only [List.getElem_range] at this
      unfold ckB at this
      rw [hx] at this
      rw [List.take_take, show min j i = j by omega]
      simpa using this
    · cases hx
theorem takeD_fits {n : Int} {l : List En} {k : Nat} (hk : k < l.length) (hf : fitsD n (l.take k) l[k]) : takeD n (l.take k) l[k] = l.take (k + 1) := by
  unfold takeD
  rw [if_pos hf, take_at l k hk]
/-- How many fit; 0 where there is no such lock. -/
def checkN (n : Int) (l : List En) : Nat := if 1 ≤ n ∧ n ≤ 64 then checkD n l else 0
theorem trace_take {n : Int} {l : List En} (h : Trace n l) (k : Nat) : Trace n (l.take k) := by
  intro j x hx
  rw [List.getElem?_take] at hx
  split at hx
  · rename_i hj
    rw [List.take_take, show min j k = j by omega]
    exact h j x hx
  · cases hx
theorem check_stop {n : Int} {l : List En} (h : checkD n l < l.length) : ¬ fitsD n (l.take (checkD n l)) l[checkD n l] := by
  intro hf
  have h1 := trace_snoc.2 ⟨checkD_trace n l, hf⟩
  rw [← take_at l _ h] at h1
  have h2 := h
  rw [checkD_eq] at h
  cases hg : (List.range l.length).find? (ckB n l) with
  | none => rw [hg] at h; simp at h
  | some k =>
    have e : checkD n l = k := by rw [checkD_eq, hg]; rfl
    have := List.find?_some hg
    unfold ckB at this
    rw [List.getElem?_eq_getElem (by omega)] at this
    simp only [Bool.not_eq_true', decide_eq_false_iff_not] at this
    apply this
    have e2 : l[k]'(by omega) = l[checkD n l] := by congr 1; exact e.symm
    rw [e2, ← e]
    exact hf
theorem check_take (n : Int) (l : List En) (k : Nat) (hk : k ≤ l.length) : checkD n (l.take k) = min k (checkD n l) := by
  by_cases hc : k ≤ checkD n l
  · rw [Nat.min_eq_left hc]
    have h1 := trace_take (checkD_trace n l) k
    rw [List.take_take, Nat.min_eq_left hc] at h1
    rw [checkD_all h1, List.length_take]; omega
  · have hlt : checkD n l < l.length := by omega
    rw [Nat.min_eq_right (by omega)]
    have hl : checkD n l < (l.take k).length := by rw [List.length_take]; omega
    have hs := check_stop hlt
    refine checkD_at hl ?_ ?_
    · rw [List.take_take, Nat.min_eq_left (by omega)]
      exact checkD_trace n l
    · rw [List.take_take, Nat.min_eq_left (by omega), List.getElem_take]
      exact hs
end Go.Proofs.Ytipekdeghelpaaa
