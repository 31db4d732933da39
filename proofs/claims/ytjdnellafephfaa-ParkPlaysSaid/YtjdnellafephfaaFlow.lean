/- A region that draws its order, whose stores (or calls that change memory) come in one order of their own, while all else may come at whatever place: over any program. -/
import Derived.Test.YtjdnellafephfaaHold
namespace Go.Proofs.Ytjdnellafephfaa
open Go.ChangeShapes Go.WideShapes Go.ChangeAt Go.RowKit
set_option linter.unusedVariables false

/-- How many of the changing ones are done for sure ahead of operation i; how many at most. -/
def loOf (ops : Array Oper) (st : List Nat) (i : Nat) : Nat := (st.filter fun s => (depsOf ops i).contains s).length
def hiOf (ops : Array Oper) (st : List Nat) (i : Nat) : Nat := st.findIdx fun s => (depsOf ops s).contains i
/-- Each of the changing ones waits for the one ahead of it. -/
def chainS (ops : Array Oper) : List Nat → Bool
  | s :: t :: l => (depsOf ops t).contains s && (decide (s < ops.size) && chainS ops (t :: l))
  | [s] => decide (s < ops.size)
  | [] => true
/-- What is to be shown of each operation. -/
def eachFlow (P : Program) (ops : Array Oper) (F : Nat → Value → World → Prop) (Wp : Nat → World → Prop) (Step : Nat → World → World → Prop) (lit : (Nat → Value) → Act) (st : List Nat) : List Oper → Nat → Prop
  | [], _ => True
  | o :: l, i => (match st.contains i with
    | true => ∀ (vs : Nat → Value) W, Wp (st.idxOf i) W → (∀ j ∈ depsOf ops i, F j (vs j) W) → leavesIf P ops (fun v W' => F i v W' ∧ Wp (st.idxOf i + 1) W' ∧ Step (st.idxOf i) W W') o (lit vs) W
    | false => ∀ (vs : Nat → Value) W k, loOf ops st i ≤ k → k ≤ hiOf ops st i → Wp k W → (∀ j ∈ depsOf ops i, F j (vs j) W) → leavesOp P ops (F i) o (lit vs) W) ∧ eachFlow P ops F Wp Step lit st l (i + 1)
theorem eachFlow_at {P : Program} {ops : Array Oper} {F : Nat → Value → World → Prop} {Wp : Nat → World → Prop} {Step : Nat → World → World → Prop} {lit : (Nat → Value) → Act} {st : List Nat} : ∀ (l : List Oper) (b i : Nat) (o : Oper), eachFlow P ops F Wp Step lit st l b → l[i]? = some o →
    (st.contains (b + i) = true → ∀ (vs : Nat → Value) W, Wp (st.idxOf (b + i)) W → (∀ j ∈ depsOf ops (b + i), F j (vs j) W) → leavesIf P ops (fun v W' => F (b + i) v W' ∧ Wp (st.idxOf (b + i) + 1) W' ∧ Step (st.idxOf (b + i)) W W') o (lit vs) W) ∧
    (st.contains (b + i) = false → ∀ (vs : Nat → Value) W k, loOf ops st (b + i) ≤ k → k ≤ hiOf ops st (b + i) → Wp k W → (∀ j ∈ depsOf ops (b + i), F j (vs j) W) → leavesOp P ops (F (b + i)) o (lit vs) W)
  | [], b, i, o, _, hi => by simp at hi
  | x :: l, b, 0, o, h, hi => by
    simp only [List.getElem?_cons_zero, Option.some.injEq] at hi
    subst hi
    have h1 := h.1
    simp only [Nat.add_zero]
    constructor
    · intro e; rw [e] at h1; exact h1
    · intro e; rw [e] at h1; exact h1
  | x :: l, b, i + 1, o, h, hi => by
    have := eachFlow_at l (b + 1) i o h.2 (by simpa using hi)
    rw [show b + 1 + i = b + (i + 1) by omega] at this
    exact this

theorem chainS_at {ops : Array Oper} : ∀ (st : List Nat), chainS ops st = true → ∀ (j s t : Nat), st[j]? = some s → st[j + 1]? = some t → s ∈ depsOf ops t
  | [], _, j, s, t, h, _ => by simp at h
  | [x], _, j, s, t, _, h => by simp at h
  | x :: y :: l, h, 0, s, t, h1, h2 => by
    simp at h1 h2
    subst h1; subst h2
    simp only [chainS, Bool.and_eq_true] at h
    simpa using h.1
  | x :: y :: l, h, j + 1, s, t, h1, h2 => by
    simp only [chainS, Bool.and_eq_true] at h
    exact chainS_at (y :: l) h.2.2 j s t (by simpa using h1) (by simpa using h2)
theorem chainS_lt {ops : Array Oper} : ∀ (st : List Nat), chainS ops st = true → ∀ s ∈ st, s < ops.size
  | [], _, s, h => by simp at h
  | [x], h, s, hs => by simp at hs; subst hs; simpa [chainS] using h
  | x :: y :: l, h, s, hs => by
    simp only [chainS, Bool.and_eq_true, decide_eq_true_eq] at h
    rcases List.mem_cons.1 hs with rfl | hs
    · exact h.2.1
    · exact chainS_lt (y :: l) h.2.2 s hs

theorem wp_region_flow {P : Program} {l : List Oper} {Q : Exit → Act → World → Prop} {id : Nat} {a : Act} {w : World} (st : List Nat) (Wp : Nat → World → Prop) (Step : Nat → World → World → Prop) (lit : (Nat → Value) → Act) (F : Nat → Value → World → Prop)
    (hm : P.follows .mixedOrders = true) (hr : relyB l.toArray = true) (hc : chainS l.toArray st = true) (hnd : st.Nodup) (hlit : ∀ vs, frameOf l.toArray a (fun _ => true) vs = lit vs)
    (h0 : Wp 0 w)
    (hW : ∀ k W W', Wp k W → Below W.heap.size W W' → Wp k W')
    (hF : ∀ i v W W', F i v W → Below W.heap.size W W' → F i v W')
    (hS : ∀ k W W', Wp k W → Step k W W' → ∀ i v, F i v W → F i v W')
    (hop : eachFlow P l.toArray F Wp Step lit st l 0)
    (hend : ∀ (vs : Nat → Value) W, Wp st.length W → (∀ i, i < l.length → F i (vs i) W) → Q .normal (lit vs) W) : (Code.region id l.toArray true).wp P Q a w := by
  refine wp_region_holds hm hr (fun d vs W => ∃ k, k ≤ st.length ∧ (∀ j s, st[j]? = some s → (d s = true ↔ j < k)) ∧ (∀ i, d i = true → ∀ j ∈ depsOf l.toArray i, d j = true) ∧ Wp k W ∧ ∀ i, d i = true → F i (vs i) W) ?_ ?_ ?_
  · exact ⟨0, Nat.zero_le _, fun j s _ => by simp, (fun i h => by cases h), hW 0 _ _ h0 (Below.refl _ _).drew, (fun i h => by cases h)⟩
  · rintro i o ho d vs W ⟨k, hk, hst, hcl, hWk, hFd⟩ hdi hdep
    have ho' : l[i]? = some o := by simpa using ho
    rw [hlit]
    obtain ⟨e1, e2⟩ := eachFlow_at l 0 i o hop ho'
    rw [Nat.zero_add] at e1 e2
    have hFdep : ∀ j ∈ depsOf l.toArray i, F j (vs j) W := fun j hj => hFd j (hdep j hj)
    cases hci : st.contains i with
    | true =>
      have hmem : i ∈ st := by simpa using hci
      have hidx : st.idxOf i < st.length := List.idxOf_lt_length_iff.2 hmem
      have hat : st[st.idxOf i]? = some i := by rw [List.getElem?_eq_getElem hidx, List.getElem_idxOf hidx]
      -- it is the next one
      have hki : st.idxOf i = k := by
        have h1 : ¬ st.idxOf i < k := fun h => by
          have := (hst _ i hat).2 h
          rw [hdi] at this; cases this
        rcases Nat.lt_or_eq_of_le (Nat.le_of_not_lt h1) with h2 | h2
        · exfalso
          -- the one ahead is done, so all ahead are
          have hp : st.idxOf i - 1 + 1 = st.idxOf i := by omega
          have hpl : st.idxOf i - 1 < st.length := by omega
          have hs := chainS_at st hc (st.idxOf i - 1) st[st.idxOf i - 1] i (List.getElem?_eq_getElem hpl) (by rw [hp]; exact hat)
          have hd := hdep _ hs
          have := (hst _ _ (List.getElem?_eq_getElem hpl)).1 hd
          omega
        · exact h2.symm
      have h3 := e1 hci vs W (by rw [hki]; exact hWk) hFdep
      refine leavesIf_mono h3 ?_
      rintro v W' ⟨hv, hW2, hstep⟩
      rw [hki] at hW2 hstep
      refine ⟨k + 1, by omega, fun j s hs => ?_, fun x hx j hj => by
        by_cases e : x = i
        · subst e; have h4 := hdep j hj; by_cases e2 : j = x <;> simp [e2, h4]
        · simp only [if_neg e] at hx; have h4 := hcl x hx j hj; by_cases e2 : j = i <;> simp [e2, h4], hW2, fun j hj => ?_⟩
      · by_cases e : s = i
        · subst e
          have hj : j = k := by
            rw [← hki]
            have hjl := (List.getElem?_eq_some_iff.1 hs).1
            have hsj := (List.getElem?_eq_some_iff.1 hs).2
            have := hnd.idxOf_getElem j hjl
            rw [hsj] at this
            exact this.symm
          simp; omega
        · simp only [if_neg e]
          rw [hst j s hs]
          constructor
          · omega
          · intro h
            by_cases hj : j = k
            · exfalso
              subst hj
              rw [← hki, hat] at hs
              injection hs with hs
              exact e hs.symm
            · omega
      · by_cases e : j = i
        · subst e; simp only [if_true]; exact hv
        · simp only [if_neg e] at hj ⊢
          exact hS k W W' hWk hstep j _ (hFd j hj)
    | false =>
      have hnm : i ∉ st := by simpa using hci
      have hlo : loOf l.toArray st i ≤ k := by
        unfold loOf
        have hsub : ∀ (s : List Nat) (b : Nat), (∀ j x, s[j]? = some x → st[b + j]? = some x) → (s.filter fun x => (depsOf l.toArray i).contains x).length ≤ k - b := by
          intro s
          induction s with
          | nil => intro b _; simp
          | cons x s ih =>
            intro b hb
            have hx := hb 0 x (by simp)
            rw [Nat.add_zero] at hx
            have ih2 := ih (b + 1) (fun j y hy => by rw [show b + 1 + j = b + (j + 1) by omega]; exact hb (j + 1) y (by simpa using hy))
            rw [List.filter_cons]
            split
            · rename_i hcx
              have hd := hdep x (by simpa using hcx)
              have := (hst b x hx).1 hd
              simp only [List.length_cons]
              omega
            · omega
        have := hsub st 0 (fun j x h => by rw [Nat.zero_add]; exact h)
        omega
      have hhi : k ≤ hiOf l.toArray st i := by
        unfold hiOf
        rcases Nat.lt_or_ge (st.findIdx fun s => (depsOf l.toArray s).contains i) st.length with h | h
        · refine Nat.le_of_not_lt fun hlt => ?_
          have hp := List.findIdx_getElem (w := h)
          have hd := (hst _ _ (List.getElem?_eq_getElem h)).2 hlt
          -- what is done had all that it waits for done
          have := hcl _ hd i (by simpa using hp)
          rw [hdi] at this
          cases this
        · omega
      exact leavesIf_of (e2 hci vs W k hlo hhi hWk hFdep) (fun v W' hv hb => ⟨k, hk, fun j s hs => by
        have hne : s ≠ i := fun e => hnm (e ▸ List.mem_of_getElem? hs)
        simp only [if_neg hne]
        exact hst j s hs, fun x hx j hj => by
        by_cases e : x = i
        · subst e; have h4 := hdep j hj; by_cases e2 : j = x <;> simp [e2, h4]
        · simp only [if_neg e] at hx; have h4 := hcl x hx j hj; by_cases e2 : j = i <;> simp [e2, h4], hW k W W' hWk hb, fun j hj => by
        by_cases e : j = i
        · subst e; simp only [if_true]; exact hv
        · simp only [if_neg e] at hj ⊢
          exact hF j _ W W' (hFd j hj) hb⟩)
  · rintro d vs W ⟨k, hk, hst, hcl, hWk, hFd⟩ hall
    rw [hlit]
    have hks : k = st.length := by
      rcases Nat.lt_or_eq_of_le hk with h | h
      · exfalso
        have h1 := (hst k _ (List.getElem?_eq_getElem h))
        have h2 := hall st[k] (chainS_lt st hc _ (List.getElem_mem h))
        have := h1.1 h2
        omega
      · exact h
    rw [hks] at hWk
    exact hend vs W hWk (fun i hi => hFd i (hall i (by simpa using hi)))
end Go.Proofs.Ytjdnellafephfaa
