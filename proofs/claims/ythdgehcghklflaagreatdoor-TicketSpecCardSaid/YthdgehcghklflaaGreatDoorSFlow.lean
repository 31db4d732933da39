/- Flow, InstL, InstY, WdB, LnA. -/
import Derived.Test.YthdgehcghklflaaGreatDoorSMem
import Derived.Test.YthdgehcghklflaaGreatDoorShelf
import Derived.Lib.AtoiErrMem
import Derived.Lib.AtoiAll
import Derived.Lib.IndexMore
import Derived.BigRegionIn
/- A region that draws its order, whose stores (or calls that change memory) come in one order of their own, while all else may come at whatever place: over any program. -/
namespace Go.Proofs.YthdgehcghklflaaGreatDoor
open Go.ChangeShapes Go.WideShapes Go.ChangeAt Go.RowKit
set_option linter.unusedVariables false

/-- How many of the changing ones are done for sure ahead of operation i; how many at most. -/
def loOf (ops : Array Oper) (st : List Nat) (i : Nat) : Nat := (st.filter fun s => (depsOf ops i).contains s).length
def hiOf (ops : Array Oper) (st : List Nat) (i : Nat) : Nat := st.findIdx fun s => (depsOf ops s).contains i
/-- Each of the changing ones waits for the one ahead of it. -/
def chainS (ops : Array Oper) : List Nat → Bool
  | s :: t :: l => (depsOf ops t).contains s && (decide (s < ops.size) && chainS ops (t :: l))
  | [s] => decide (s < ops.size)
  | [] => true
/-- What is to be shown of each operation. -/
def eachFlow (P : Program) (ops : Array Oper) (F : Nat → Value → World → Prop) (Wp : Nat → World → Prop) (Step : Nat → World → World → Prop) (lit : (Nat → Value) → Act) (st : List Nat) : List Oper → Nat → Prop
  | [], _ => True
  | o :: l, i => (match st.contains i with
    | true => ∀ (vs : Nat → Value) W, Wp (st.idxOf i) W → (∀ j ∈ depsOf ops i, F j (vs j) W) → leavesIf P ops (fun v W' => F i v W' ∧ Wp (st.idxOf i + 1) W' ∧ Step (st.idxOf i) W W') o (lit vs) W
    | false => ∀ (vs : Nat → Value) W k, loOf ops st i ≤ k → k ≤ hiOf ops st i → Wp k W → (∀ j ∈ depsOf ops i, F j (vs j) W) → leavesOp P ops (F i) o (lit vs) W) ∧ eachFlow P ops F Wp Step lit st l (i + 1)
theorem eachFlow_at {P : Program} {ops : Array Oper} {F : Nat → Value → World → Prop} {Wp : Nat → World → Prop} {Step : Nat → World → World → Prop} {lit : (Nat → Value) → Act} {st : List Nat} : ∀ (l : List Oper) (b i : Nat) (o : Oper), eachFlow P ops F Wp Step lit st l b → l[i]? = some o →
    (st.contains (b + i) = true → ∀ (vs : Nat → Value) W, Wp (st.idxOf (b + i)) W → (∀ j ∈ depsOf ops (b + i), F j (vs j) W) → leavesIf P ops (fun v W' => F (b + i) v W' ∧ Wp (st.idxOf (b + i) + 1) W' ∧ Step (st.idxOf (b + i)) W W') o (lit vs) W) ∧
    (st.contains (b + i) = false → ∀ (vs : Nat → Value) W k, loOf ops st (b + i) ≤ k → k ≤ hiOf ops st (b + i) → Wp k W → (∀ j ∈ depsOf ops (b + i), F j (vs j) W) → leavesOp P ops (F (b + i)) o (lit vs) W)
  | [], b, i, o, _, hi => by simp at hi
  | x :: l, b, 0, o, h, hi => by
    simp only [List.getElem?_cons_zero, Option.some.injEq] at hi
    subst hi
    have h1 := h.1
    simp only [Nat.add_zero]
    constructor
    · intro e; rw [e] at h1; exact h1
    · intro e; rw [e] at h1; exact h1
  | x :: l, b, i + 1, o, h, hi => by
    have := eachFlow_at l (b + 1) i o h.2 (by simpa using hi)
    rw [show b + 1 + i = b + (i + 1) by omega] at this
    exact this

theorem chainS_at {ops : Array Oper} : ∀ (st : List Nat), chainS ops st = true → ∀ (j s t : Nat), st[j]? = some s → st[j + 1]? = some t → s ∈ depsOf ops t
  | [], _, j, s, t, h, _ => by simp at h
  | [x], _, j, s, t, _, h => by simp at h
  | x :: y :: l, h, 0, s, t, h1, h2 => by
    simp at h1 h2
    subst h1; subst h2
    simp only [chainS, Bool.and_eq_true] at h
    simpa using h.1
  | x :: y :: l, h, j + 1, s, t, h1, h2 => by
    simp only [chainS, Bool.and_eq_true] at h
    exact chainS_at (y :: l) h.2.2 j s t (by simpa using h1) (by simpa using h2)
theorem chainS_lt {ops : Array Oper} : ∀ (st : List Nat), chainS ops st = true → ∀ s ∈ st, s < ops.size
  | [], _, s, h => by simp at h
  | [x], h, s, hs => by simp at hs; subst hs; simpa [chainS] using h
  | x :: y :: l, h, s, hs => by
    simp only [chainS, Bool.and_eq_true, decide_eq_true_eq] at h
    rcases List.mem_cons.1 hs with rfl | hs
    · exact h.2.1
    · exact chainS_lt (y :: l) h.2.2 s hs

theorem wp_region_flow {P : Program} {l : List Oper} {Q : Exit → Act → World → Prop} {id : Nat} {a : Act} {w : World} (st : List Nat) (Wp : Nat → World → Prop) (Step : Nat → World → World → Prop) (lit : (Nat → Value) → Act) (F : Nat → Value → World → Prop)
    (hm : P.follows .mixedOrders = true) (hr : relyB l.toArray = true) (hc : chainS l.toArray st = true) (hnd : st.Nodup) (hlit : ∀ vs, frameOf l.toArray a (fun _ => true) vs = lit vs)
    (h0 : Wp 0 w)
    (hW : ∀ k W W', Wp k W → Below W.heap.size W W' → Wp k W')
    (hF : ∀ i v W W', F i v W → Below W.heap.size W W' → F i v W')
    (hS : ∀ k W W', Wp k W → Step k W W' → ∀ i v, F i v W → F i v W')
    (hop : eachFlow P l.toArray F Wp Step lit st l 0)
    (hend : ∀ (vs : Nat → Value) W, Wp st.length W → (∀ i, i < l.length → F i (vs i) W) → Q .normal (lit vs) W) : (Code.region id l.toArray true).wp P Q a w := by
  refine wp_region_holds hm hr (fun d vs W => ∃ k, k ≤ st.length ∧ (∀ j s, st[j]? = some s → (d s = true ↔ j < k)) ∧ (∀ i, d i = true → ∀ j ∈ depsOf l.toArray i, d j = true) ∧ Wp k W ∧ ∀ i, d i = true → F i (vs i) W) ?_ ?_ ?_
  · exact ⟨0, Nat.zero_le _, fun j s _ => by simp, (fun i h => by cases h), hW 0 _ _ h0 (Below.refl _ _).drew, (fun i h => by cases h)⟩
  · rintro i o ho d vs W ⟨k, hk, hst, hcl, hWk, hFd⟩ hdi hdep
    have ho' : l[i]? = some o := by simpa using ho
    rw [hlit]
    obtain ⟨e1, e2⟩ := eachFlow_at l 0 i o hop ho'
    rw [Nat.zero_add] at e1 e2
    have hFdep : ∀ j ∈ depsOf l.toArray i, F j (vs j) W := fun j hj => hFd j (hdep j hj)
    cases hci : st.contains i with
    | true =>
      have hmem : i ∈ st := by simpa using hci
      have hidx : st.idxOf i < st.length := List.idxOf_lt_length_iff.2 hmem
      have hat : st[st.idxOf i]? = some i := by rw [List.getElem?_eq_getElem hidx, List.getElem_idxOf hidx]
      -- it is the next one
      have hki : st.idxOf i = k := by
        have h1 : ¬ st.idxOf i < k := fun h => by
          have := (hst _ i hat).2 h
          rw [hdi] at this; cases this
        rcases Nat.lt_or_eq_of_le (Nat.le_of_not_lt h1) with h2 | h2
        · exfalso
          -- the one ahead is done, so all ahead are
          have hp : st.idxOf i - 1 + 1 = st.idxOf i := by omega
          have hpl : st.idxOf i - 1 < st.length := by omega
          have hs := chainS_at st hc (st.idxOf i - 1) st[st.idxOf i - 1] i (List.getElem?_eq_getElem hpl) (by rw [hp]; exact hat)
          have hd := hdep _ hs
          have := (hst _ _ (List.getElem?_eq_getElem hpl)).1 hd
          omega
        · exact h2.symm
      have h3 := e1 hci vs W (by rw [hki]; exact hWk) hFdep
      refine leavesIf_mono h3 ?_
      rintro v W' ⟨hv, hW2, hstep⟩
      rw [hki] at hW2 hstep
      refine ⟨k + 1, by omega, fun j s hs => ?_, fun x hx j hj => by
        by_cases e : x = i
        · subst e; have h4 := hdep j hj; by_cases e2 : j = x <;> simp [e2, h4]
        · simp only [if_neg e] at hx; have h4 := hcl x hx j hj; by_cases e2 : j = i <;> simp [e2, h4], hW2, fun j hj => ?_⟩
      · by_cases e : s = i
        · subst e
          have hj : j = k := by
            rw [← hki]
            have hjl := (List.getElem?_eq_some_iff.1 hs).1
            have hsj := (List.getElem?_eq_some_iff.1 hs).2
            have := hnd.idxOf_getElem j hjl
            rw [hsj] at this
            exact this.symm
          simp; omega
        · simp only [if_neg e]
          rw [hst j s hs]
          constructor
          · omega
          · intro h
            by_cases hj : j = k
            · exfalso
              subst hj
              rw [← hki, hat] at hs
              injection hs with hs
              exact e hs.symm
            · omega
      · by_cases e : j = i
        · subst e; simp only [if_true]; exact hv
        · simp only [if_neg e] at hj ⊢
          exact hS k W W' hWk hstep j _ (hFd j hj)
    | false =>
      have hnm : i ∉ st := by simpa using hci
      have hlo : loOf l.toArray st i ≤ k := by
        unfold loOf
        have hsub : ∀ (s : List Nat) (b : Nat), (∀ j x, s[j]? = some x → st[b + j]? = some x) → (s.filter fun x => (depsOf l.toArray i).contains x).length ≤ k - b := by
          intro s
          induction s with
          | nil => intro b _; simp
          | cons x s ih =>
            intro b hb
            have hx := hb 0 x (by simp)
            rw [Nat.add_zero] at hx
            have ih2 := ih (b + 1) (fun j y hy => by rw [show b + 1 + j = b + (j + 1) by omega]; exact hb (j + 1) y (by simpa using hy))
            rw [List.filter_cons]
            split
            · rename_i hcx
              have hd := hdep x (by simpa using hcx)
              have := (hst b x hx).1 hd
              simp only [List.length_cons]
              omega
            · omega
        have := hsub st 0 (fun j x h => by rw [Nat.zero_add]; exact h)
        omega
      have hhi : k ≤ hiOf l.toArray st i := by
        unfold hiOf
        rcases Nat.lt_or_ge (st.findIdx fun s => (depsOf l.toArray s).contains i) st.length with h | h
        · refine Nat.le_of_not_lt fun hlt => ?_
          have hp := List.findIdx_getElem (w := h)
          have hd := (hst _ _ (List.getElem?_eq_getElem h)).2 hlt
          -- what is done had all that it waits for done
          have := hcl _ hd i (by simpa using hp)
          rw [hdi] at this
          cases this
        · omega
      exact leavesIf_of (e2 hci vs W k hlo hhi hWk hFdep) (fun v W' hv hb => ⟨k, hk, fun j s hs => by
        have hne : s ≠ i := fun e => hnm (e ▸ List.mem_of_getElem? hs)
        simp only [if_neg hne]
        exact hst j s hs, fun x hx j hj => by
        by_cases e : x = i
        · subst e; have h4 := hdep j hj; by_cases e2 : j = x <;> simp [e2, h4]
        · simp only [if_neg e] at hx; have h4 := hcl x hx j hj; by_cases e2 : j = i <;> simp [e2, h4], hW k W W' hWk hb, fun j hj => by
        by_cases e : j = i
        · subst e; simp only [if_true]; exact hv
        · simp only [if_neg e] at hj ⊢
          exact hF j _ W W' (hFd j hj) hb⟩)
  · rintro d vs W ⟨k, hk, hst, hcl, hWk, hFd⟩ hall
    rw [hlit]
    have hks : k = st.length := by
      rcases Nat.lt_or_eq_of_le hk with h | h
      · exfalso
        have h1 := (hst k _ (List.getElem?_eq_getElem h))
        have h2 := hall st[k] (chainS_lt st hc _ (List.getElem_mem h))
        have := h1.1 h2
        omega
      · exact h
    rw [hks] at hWk
    exact hend vs W hWk (fun i hi => hFd i (hall i (by simpa using hi)))
end Go.Proofs.YthdgehcghklflaaGreatDoor

/- What of the library's variables the calls read, and the contracts of strconv.Itoa, strconv.Atoi, strings.TrimPrefix and strings.SplitN over lists of bytes. -/
namespace Go.Proofs.YthdgehcghklflaaGreatDoor
open Go.ChangeShapes Go.WideShapes Go.ChangeAt Go.RowKit Go.Sort
set_option linter.unusedVariables false

/-- What the library's own variables hold. -/
structure Lb (w : World) : Prop where
  tab : Lib.TabIs Tryz.prog w "internal/strconv.uint64pow10" .u64 Lib.pow10Tab
  syn : ∃ tp p, w.var? Tryz.prog "strconv.ErrSyntax" = some #[.iface tp p]
  rng : ∃ tp p, w.var? Tryz.prog "strconv.ErrRange" = some #[.iface tp p]
  mx : ∃ m, w.cell? ⟨0, 0, none⟩ = some (.int .i64 m)
  low : 0 < w.heap.size ∧ 5 < w.heap.size ∧ 1 < w.heap.size ∧ 2 < w.heap.size

theorem Lb.below {w w' : World} (h : Lb w) (hb : Below w.heap.size w w') : Lb w' := by
  obtain ⟨l0, l1, l2, l3⟩ := h.low
  have hz := hb.size
  refine ⟨?_, ?_, ?_, ?_, by omega, by omega, by omega, by omega⟩
  · exact var?_below hb (g := 5) (by kernel_rfl) (by omega) h.tab
  · obtain ⟨tp, p, e⟩ := h.syn
    exact ⟨tp, p, var?_below hb (g := 1) (by kernel_rfl) (by omega) e⟩
  · obtain ⟨tp, p, e⟩ := h.rng
    exact ⟨tp, p, var?_below hb (g := 2) (by kernel_rfl) (by omega) e⟩
  · obtain ⟨m, e⟩ := h.mx
    exact ⟨m, (hb.cell (p := ⟨0, 0, none⟩) (by show 0 < _; omega)).trans e⟩
theorem Lb.grw {w : World} (h : Lb w) (g : Grw w) : Lb g.x := h.below g.ok

theorem below_grow (w : World) (k : Nat) (os : Array Obj) : Below w.heap.size w (grow (w.drewN k) os) := by
  refine ⟨rfl, rfl, rfl, ?_, fun j hj => ?_⟩
  · show w.heap.size ≤ (w.heap ++ os).size
    simp
  · show (w.heap ++ os)[j]? = w.heap[j]?
    rw [Array.getElem?_append_left hj]

theorem lItoa (n : Int) (h0 : -9223372036854775808 ≤ n) (h1 : n ≤ 9223372036854775807) (w : World) (L : Lb w) :
    Calls Tryz.prog 181 #[.int .i64 n] w fun e w' => e = .returned (bs (Lib.itoa n)) ∧ Below w.heap.size w w' :=
  (Any.strconv_Itoa Tryz.laysM171 n h0 h1 w L.tab).mono fun _ _ ⟨he, k, os, hw⟩ => ⟨he, by rw [hw]; exact below_grow w k os⟩

theorem lTrim (s p : List UInt8) (w : World) :
    Calls Tryz.prog 177 #[bs s, bs p] w fun e w' => e = .returned (bs (Lib.trimPrefix s p)) ∧ w = w' :=
  (Any.strings_TrimPrefix Tryz.lays101 ⟨s.toArray⟩ ⟨p.toArray⟩ w).mono fun _ _ ⟨he, hw⟩ => ⟨he, hw.symm⟩

theorem lAtoiOk (s : List UInt8) (hl : s.length ≤ 281474976710656) (v : Int) (h : Lib.atoiAll s = .ok v) (w : World) :
    Calls Tryz.prog 176 #[bs s] w fun e w' => e = .returned (.tuple #[.int .i64 v, .nilIface]) ∧ Below w.heap.size w w' := by
  have hs : (⟨s.toArray⟩ : ByteArray).size = s.length := by simp [ByteArray.size]
  refine (Any.strconv_Atoi_ok Tryz.laysC172 ⟨s.toArray⟩ (by omega) v h w).mono fun e w' ⟨he, hw⟩ => ⟨he, ?_⟩
  rcases hw with rfl | ⟨t, rfl⟩
  · exact Below.refl _ _
  · exact Lib.bytesWorld_below _ _ _

/-- An error, and nothing that was there has changed. -/
def Failed (w : World) (e : Ending) (w' : World) : Prop := ∃ (v : Int) (b : Nat), e = .returned (.tuple #[.int .i64 v, .iface 287 (.pointer (some ⟨b, 0, none⟩))]) ∧ Below w.heap.size w w'

theorem lAtoiNo (s : List UInt8) (hl : s.length ≤ 281474976710656) (h : ∀ v, Lib.atoiAll s ≠ .ok v) (w : World) (L : Lb w) :
    Calls Tryz.prog 176 #[bs s] w (Failed w) := by
  have hs : (⟨s.toArray⟩ : ByteArray).size = s.length := by simp [ByteArray.size]
  cases ha : Lib.atoiAll s with
  | ok v => exact absurd ha (h v)
  | range =>
    obtain ⟨tp, p, hv⟩ := L.rng
    exact (Any.strconv_Atoi_range_var Tryz.laysC172 ⟨s.toArray⟩ (by omega) ha tp p w hv).mono fun e w' ⟨N, he, _, _, hb⟩ => ⟨_, N, he, hb⟩
  | _ =>
    obtain ⟨tp, p, hv⟩ := L.syn
    exact (Any.strconv_Atoi_syntax_var Tryz.laysC172 ⟨s.toArray⟩ (by omega) ha tp p w hv).mono fun e w' ⟨N, he, _, _, hb⟩ => ⟨_, N, he, hb⟩

/-- The words of a text, as inst.Parse splits it: at most nine. -/
def splitL (s : List UInt8) : List (List UInt8) := Lib.splitN s [32] 9 -- 162

/-- The value v is a slice of just these strings, in a row of the call's own making. -/
def Strs (w : World) (v : Value) (ws : List (List UInt8)) : Prop :=
  ∃ g cap, v = .slice (some ⟨g, 0, none⟩) ws.length cap ∧ ws.length ≤ cap ∧ cap ≤ 1000000 ∧ g < w.heap.size ∧ ∀ n, n < ws.length → w.cell? ⟨g, n, none⟩ = some (bs (ws.getD n []))
theorem Strs.below {w w' : World} {v : Value} {ws : List (List UInt8)} (h : Strs w v ws) (hb : Below w.heap.size w w') : Strs w' v ws := by
  obtain ⟨g, cap, e, h1, h2, h3, h4⟩ := h
  exact ⟨g, cap, e, h1, h2, Nat.lt_of_lt_of_le h3 hb.size, fun n hn => (hb.cell (p := ⟨g, n, none⟩) h3).trans (h4 n hn)⟩

theorem lSplit (s : List UInt8) (hl : s.length < 4294967281) (w : World) (L : Lb w) :
    Calls Tryz.prog 162 #[bs s, bs [32], .int .i64 9] w fun e w' => ∃ v, e = .returned v ∧ Strs w' v (splitL s) ∧ Below w.heap.size w w' := by
  obtain ⟨m, hm⟩ := L.mx
  have hs : (⟨s.toArray⟩ : ByteArray).size = s.length := by simp [ByteArray.size]
  refine (Any.strings_SplitN { Tryz.laysM147 with } Tryz.laysM147.i9 ⟨s.toArray⟩ ⟨#[32]⟩ 9 m w (by omega) hm (by decide) (by decide) (by decide)).mono fun e w' ⟨he, hw⟩ => ?_
  have hdat := Lib.splitB_data ⟨#[32]⟩ 0 (min 9 ((⟨s.toArray⟩ : ByteArray).size + 1) - 1) ⟨s.toArray⟩
  have hle := Lib.splitB_length_le ⟨#[32]⟩ 0 (min 9 ((⟨s.toArray⟩ : ByteArray).size + 1) - 1) ⟨s.toArray⟩
  generalize hl2 : Lib.splitB ⟨#[32]⟩ 0 (min 9 ((⟨s.toArray⟩ : ByteArray).size + 1) - 1) ⟨s.toArray⟩ = l at *
  have hlen : (splitL s).length = l.length := by
    unfold splitL Lib.splitN
    rw [← hs]
    have := congrArg List.length hdat
    simpa using this.symm
  have hcap : min 9 ((⟨s.toArray⟩ : ByteArray).size + 1) ≤ 9 := Nat.min_le_left _ _
  have hcap1 : 1 ≤ min 9 ((⟨s.toArray⟩ : ByteArray).size + 1) := by omega
  subst hw
  refine ⟨_, he, ⟨w.heap.size, min 9 ((⟨s.toArray⟩ : ByteArray).size + 1), by rw [hlen], by omega, by omega, by simp, fun n hn => ?_⟩, (Below.refl _ _).alloc (Nat.le_refl _) _⟩
  rw [cell_of_row _ _ _ _ _ _ (heap_alloc_new w _)]
  rw [hlen] at hn
  have h1 : (Lib.cellsOf l (min 9 ((⟨s.toArray⟩ : ByteArray).size + 1)))[n]? = some (.string l[n]) := by
    unfold Lib.cellsOf
    rw [List.getElem?_toArray, List.getElem?_append_left (by simpa using hn), List.getElem?_map, List.getElem?_eq_getElem hn]
    rfl
  rw [h1]
  have h2 : (splitL s).getD n [] = l[n].data.toList := by
    have h3 : splitL s = l.map (·.data.toList) := by rw [hdat]; unfold splitL Lib.splitN; rw [hs]
    rw [h3]
    simp [hn]
  rw [h2]
  rfl

end Go.Proofs.YthdgehcghklflaaGreatDoor

/- The document's Words. -/
namespace Go.Proofs.YthdgehcghklflaaGreatDoor
open Go.ChangeShapes Go.WideShapes Go.ChangeAt Go.RowKit
set_option linter.unusedVariables false

/-- A byte ahead of the first word. -/
def ahead (c : UInt8) : List (List UInt8) → List (List UInt8)
  | [] => [[c]]
  | l :: r => (c :: l) :: r
/-- What stands between blanks. -/
def wordsL : List UInt8 → List (List UInt8)
  | [] => [[]]
  | c :: r => if c = 32 then [] :: wordsL r else ahead c (wordsL r)

theorem wordsL_pos : ∀ s, 0 < (wordsL s).length
  | [] => by simp [wordsL]
  | c :: r => by
    unfold wordsL
    split
    · simp
    · have := wordsL_pos r
      generalize wordsL r = ws at *
      cases ws with
      | nil => simp at this
      | cons a b => simp [ahead]
theorem wordsL_one : ∀ t : List UInt8, (∀ c ∈ t, c ≠ 32) → wordsL t = [t]
  | [], _ => rfl
  | c :: r, h => by
    unfold wordsL
    rw [if_neg (h c List.mem_cons_self), wordsL_one r fun d hd => h d (List.mem_cons_of_mem _ hd)]
    rfl
theorem wordsL_more : ∀ (t r : List UInt8), (∀ c ∈ t, c ≠ 32) → wordsL (t ++ 32 :: r) = t :: wordsL r
  | [], r, _ => by simp [wordsL]
  | c :: t, r, h => by
    have e : wordsL (c :: (t ++ 32 :: r)) = ahead c (wordsL (t ++ 32 :: r)) := by
      rw [wordsL, if_neg (h c List.mem_cons_self)]
    show wordsL (c :: (t ++ 32 :: r)) = _
    rw [e, wordsL_more t r fun d hd => h d (List.mem_cons_of_mem _ hd)]
    rfl
theorem wordsL_len : ∀ s : List UInt8, (wordsL s).length ≤ s.length + 1
  | [] => by simp [wordsL]
  | c :: r => by
    have h := wordsL_len r
    unfold wordsL
    split
    · simp; omega
    · generalize wordsL r = ws at *
      cases ws with
      | nil => simp [ahead]
      | cons a b => simp [ahead] at *; omega
theorem wordsL_le : ∀ s : List UInt8, ∀ l ∈ wordsL s, l.length ≤ s.length
  | [], l, h => by simp [wordsL] at h; subst h; simp
  | c :: r, l, h => by
    have ih := wordsL_le r
    unfold wordsL at h
    split at h
    · rcases List.mem_cons.1 h with rfl | h
      · simp
      · have := ih l h; simp; omega
    · generalize wordsL r = ws at *
      cases ws with
      | nil => simp [ahead] at h; subst h; simp
      | cons a b =>
        simp only [ahead] at h
        rcases List.mem_cons.1 h with rfl | h
        · have := ih a List.mem_cons_self; simp; omega
        · have := ih l (List.mem_cons_of_mem _ h); simp; omega

/-- At place i of s, the word that is under way begun at f: the words so far. -/
structure WordsAt (s : List UInt8) (out : List (List UInt8)) (f i : Nat) : Prop where
  le : f ≤ i
  no : ∀ j, f ≤ j → j < i → s.getD j 0 ≠ 32
  all : out ++ wordsL (s.drop f) = wordsL s
  few : out.length ≤ f

theorem cut_no {s : List UInt8} {f i : Nat} (hi : i ≤ s.length) (h : ∀ j, f ≤ j → j < i → s.getD j 0 ≠ 32) : ∀ c ∈ (s.take i).drop f, c ≠ 32 := by
  intro c hc
  obtain ⟨n, hn, rfl⟩ := List.getElem_of_mem hc
  have h1 := h (f + n) (by omega) (by simp at hn; omega)
  simp at hn
  rw [List.getElem_drop, List.getElem_take]
  simpa [show f + n < s.length by omega] using h1
theorem WordsAt.blank {s : List UInt8} {out : List (List UInt8)} {f i : Nat} (h : WordsAt s out f i) (hi : i < s.length) (hc : s.getD i 0 = 32) : WordsAt s (out ++ [(s.take i).drop f]) (i + 1) (i + 1) := by
  refine ⟨Nat.le_refl _, fun j h1 h2 => by omega, ?_, by have := h.few; have := h.le; simp; omega⟩
  rw [← h.all, List.append_assoc]
  congr 1
  have e : s.drop f = (s.take i).drop f ++ 32 :: s.drop (i + 1) := by
    have e1 : s = s.take i ++ 32 :: s.drop (i + 1) := by
      have hg : s[i] = 32 := by simpa [hi] using hc
      rw [← hg, ← List.drop_eq_getElem_cons hi, List.take_append_drop]
    have hle : f ≤ (s.take i).length := by have := h.le; simp; omega
    rw [← List.drop_append_of_le_length hle, ← e1]
  rw [e, wordsL_more _ _ (cut_no (by omega) h.no)]
  rfl
theorem WordsAt.last {s : List UInt8} {out : List (List UInt8)} {f : Nat} (h : WordsAt s out f s.length) : out ++ [(s.take s.length).drop f] = wordsL s := by
  rw [← h.all]
  congr 1
  have := cut_no (Nat.le_refl _) h.no
  rw [List.take_length] at this ⊢
  rw [wordsL_one _ this]
theorem WordsAt.on {s : List UInt8} {out : List (List UInt8)} {f i : Nat} (h : WordsAt s out f i) (hc : s.getD i 0 ≠ 32) : WordsAt s out f (i + 1) :=
  ⟨by have := h.le; omega, fun j h1 h2 => by
    by_cases e : j = i
    · subst e; exact hc
    · exact h.no j h1 (by omega), h.all, h.few⟩

/-- The words as values. -/
def wvs (ws : List (List UInt8)) : List Value := ws.map bs
theorem wvs_snoc (ws : List (List UInt8)) (l : List UInt8) : wvs (ws ++ [l]) = wvs ws ++ [.string ⟨l.toArray⟩] := by simp [wvs, bs]


set_option maxHeartbeats 1000000 in
theorem rWords (s : List UInt8) (hl : s.length < 100000) (w : World) :
    Calls Tryz.prog 101 #[bs s] w fun e w' => ∃ v, e = .returned v ∧ Vls 9 w' v (wvs (wordsL s)) ∧ Below w.heap.size w w' := by
  unfold bs
  go_enter Tryz.func101, Tryz.ntmps101
  go_wp2
  go_loopw [3, 4, 5] (fun o f i x => ∃ (out : List (List UInt8)) (fn n : Nat), i = .int .i64 n ∧ f = .int .i64 fn ∧ Vls 9 x o (wvs out) ∧ Below w.heap.size w x ∧ (∀ g, o.ownBlock = some g → w.heap.size ≤ g) ∧ n ≤ s.length + 1 ∧ ((n ≤ s.length ∧ WordsAt s out fn n) ∨ (n = s.length + 1 ∧ out = wordsL s))) (fun _ _ i _ => s.length + 1 - (intOf i).toNat)
  case atStart => exact ⟨[], 0, 0, rfl, rfl, Vls.nil _ _, Below.refl _ _, (fun g e => by cases e), by omega, .inl ⟨by omega, ⟨Nat.le_refl _, fun j h1 h2 => by omega, rfl, Nat.le_refl _⟩⟩⟩
  case round =>
    obtain ⟨out, fn, n, rfl, rfl, hV, hb, hown, hn, hW⟩ := hrel
    rcases hW with ⟨hle, hW⟩ | ⟨rfl, rfl⟩
    · have hfew := hW.few
      have hfl := hW.le
      have hvl : (wvs out).length = out.length := by simp [wvs]
      by_cases hend : n = s.length
      · subst hend
        have hcut := run_cutS s fn s.length hfl (Nat.le_refl _)
        have hlast := hW.last
        generalize (s.take s.length).drop fn = wd at *
        have HL := Lib.hid hlast
        clear hlast
        have hle2 : (s.length : Int) ≤ (s.length : Int) := by omega
        go_wp2_with (at_builtin; refine wpVlsApp (by rfl) _ _ 144 (by rfl) (.string ⟨#[]⟩) 16 Tryz.underlying144 (by kernel_rfl) rfl (by decide) hV (by rfl) (.string ⟨wd.toArray⟩) rfl (by rfl) (by omega) ?_; intro v' x' hV' hg hloc)
        have hb2 : Below w.heap.size w x' := hb.grown hg hb.size hown
        have hown2 : ∀ g, v'.ownBlock = some g → w.heap.size ≤ g := by
          intro g e
          rcases hloc with h | h
          · exact hown g (h ▸ e)
          · rw [h] at e; injection e with e; have := hb.size; omega
        go_roundw
        case rel => exact ⟨out ++ [wd], s.length + 1, s.length + 1, by go_num, by go_num, by rw [wvs_snoc]; exact hV', hb2, hown2, by omega, .inr ⟨rfl, HL.out⟩⟩
        case measure => (simp [intOf] <;> omega)
      · have hlt : n < s.length := by omega
        have hidx := run_ltr s n hlt
        have dne : ((n : Int) == (s.length : Int)) = false := by simp; omega
        have dle : (n : Int) ≤ (s.length : Int) := by omega
        by_cases hc : s.getD n 0 = 32
        · have hW2 := hW.blank hlt hc
          have hcut := run_cutS s fn n hfl hle
          rw [hc] at hidx
          have e32 : (((32 : UInt8).toNat : Nat) : Int) = 32 := rfl
          rw [e32] at hidx
          clear e32 hc
          generalize (s.take n).drop fn = wd at *
          go_wp2_with (at_builtin; refine wpVlsApp (by rfl) _ _ 144 (by rfl) (.string ⟨#[]⟩) 16 Tryz.underlying144 (by kernel_rfl) rfl (by decide) hV (by rfl) (.string ⟨wd.toArray⟩) rfl (by rfl) (by omega) ?_; intro v' x' hV' hg hloc)
          have hb2 : Below w.heap.size w x' := hb.grown hg hb.size hown
          have hown2 : ∀ g, v'.ownBlock = some g → w.heap.size ≤ g := by
            intro g e
            rcases hloc with h | h
            · exact hown g (h ▸ e)
            · rw [h] at e; injection e with e; have := hb.size; omega
          go_roundw
          case rel => exact ⟨out ++ [wd], n + 1, n + 1, by go_num, by go_num, by rw [wvs_snoc]; exact hV', hb2, hown2, by omega, .inl ⟨by omega, hW2⟩⟩
          case measure => (simp [intOf] <;> omega)
        · have hW2 := hW.on hc
          have dc : ((((s.getD n 0).toNat : Nat) : Int) == 32) = false := by
            have h : (s.getD n 0).toNat ≠ 32 := fun e => hc (UInt8.toNat_inj.1 e)
            generalize (s.getD n 0).toNat = c at *
            simp; omega
          generalize (s.getD n 0).toNat = c at *
          clear hc
          go_wp2
          go_roundw
          case rel => exact ⟨out, fn, n + 1, by go_num, rfl, hV, hb, hown, by omega, .inl ⟨by omega, hW2⟩⟩
          case measure => (simp [intOf] <;> omega)
    · go_wp2
      go_ret
      exact ⟨_, rfl, hV, hb⟩
end Go.Proofs.YthdgehcghklflaaGreatDoor

/- Texts, their words, their digits. No walk stands here. -/
namespace Go.Proofs.YthdgehcghklflaaGreatDoor
set_option linter.unusedVariables false

def Nl (s : List UInt8) : Prop := ∀ c ∈ s, c ≠ 10
theorem Nl.app {a b : List UInt8} (ha : Nl a) (hb : Nl b) : Nl (a ++ b) := fun c hc => by
  rcases List.mem_append.1 hc with h | h
  · exact ha c h
  · exact hb c h
/-- No blank. -/
def Bf (l : List UInt8) : Prop := ∀ c ∈ l, c ≠ 32

theorem blank_or : ∀ s : List UInt8, Bf s ∨ ∃ t r, Bf t ∧ s = t ++ 32 :: r
  | [] => .inl (by intro c h; cases h)
  | c :: s => by
    by_cases h : c = 32
    · exact .inr ⟨[], s, (by intro c h; cases h), (by rw [h]; rfl)⟩
    · rcases blank_or s with h1 | ⟨t, r, h1, rfl⟩
      · exact .inl (by intro d hd; rcases List.mem_cons.1 hd with rfl | hd; exact h; exact h1 d hd)
      · exact .inr ⟨c :: t, r, (by intro d hd; rcases List.mem_cons.1 hd with rfl | hd; exact h; exact h1 d hd), rfl⟩
theorem index_bf : ∀ t : List UInt8, Bf t → Lib.index t [32] = -1
  | [], _ => by simp [Lib.index]
  | c :: t, h => by
    have h1 := index_bf t fun d hd => h d (List.mem_cons_of_mem _ hd)
    have h2 : c ≠ 32 := h c List.mem_cons_self
    unfold Lib.index
    rw [if_neg (by simp [List.isPrefixOf]; exact fun e => h2 e.symm), h1]
    rfl
theorem index_at : ∀ (t r : List UInt8), Bf t → Lib.index (t ++ 32 :: r) [32] = t.length
  | [], r, _ => by simp [Lib.index, List.isPrefixOf]
  | c :: t, r, h => by
    have h1 := index_at t r fun d hd => h d (List.mem_cons_of_mem _ hd)
    have h2 : c ≠ 32 := h c List.mem_cons_self
    show Lib.index (c :: (t ++ 32 :: r)) [32] = _
    unfold Lib.index
    rw [if_neg (by simp [List.isPrefixOf]; exact fun e => h2 e.symm), h1, if_neg (by simp <;> omega)]
    simp
/-- Words, with a blank ahead of each but the first. -/
def joinL (w0 : List UInt8) (ws : List (List UInt8)) : List UInt8 := w0 ++ ws.flatMap fun w => 32 :: w
theorem words_join : ∀ (ws : List (List UInt8)) (w0 : List UInt8), Bf w0 → (∀ w ∈ ws, Bf w) → wordsL (joinL w0 ws) = w0 :: ws
  | [], w0, h, _ => by unfold joinL; simp; exact wordsL_one w0 h
  | w :: ws, w0, h, hs => by
    have ih := words_join ws w (hs w List.mem_cons_self) fun v hv => hs v (List.mem_cons_of_mem _ hv)
    unfold joinL at *
    simp only [List.flatMap_cons, List.cons_append]
    rw [wordsL_more w0 _ h, ih]

theorem dec_digit : ∀ (n : Nat), ∀ c ∈ Lib.decDigits n, 48 ≤ c.toNat ∧ c.toNat ≤ 57 := by
  intro n
  induction n using Nat.strongRecOn with
  | _ n ih =>
    intro c hc
    rw [Lib.decDigits] at hc
    by_cases h : n < 10
    · rw [dif_pos h] at hc
      obtain rfl := List.mem_singleton.1 hc
      rw [UInt8.toNat_ofNat', Nat.mod_eq_of_lt (by omega)]
      omega
    · rw [dif_neg h] at hc
      rcases List.mem_append.1 hc with hc | hc
      · exact ih (n / 10) (by omega) c hc
      · obtain rfl := List.mem_singleton.1 hc
        rw [UInt8.toNat_ofNat', Nat.mod_eq_of_lt (by omega)]
        omega
theorem dec_bf (n : Nat) : Bf (Lib.decDigits n) := by
  intro c hc e
  have := dec_digit n c hc
  rw [e] at this
  exact absurd this (by decide)
theorem dec_cons (n : Nat) : ∃ c r, Lib.decDigits n = c :: r ∧ 48 ≤ c.toNat ∧ c.toNat ≤ 57 ∧ (10 ≤ n → 49 ≤ c.toNat) := by
  induction n using Nat.strongRecOn with
  | _ n ih =>
    rw [Lib.decDigits]
    by_cases h : n < 10
    · rw [dif_pos h]
      refine ⟨_, [], rfl, ?_⟩
      rw [UInt8.toNat_ofNat', Nat.mod_eq_of_lt (by omega)]
      omega
    · rw [dif_neg h]
      obtain ⟨c, r, e, h1, h2, h3⟩ := ih (n / 10) (by omega)
      rw [e]
      refine ⟨c, _, rfl, h1, h2, fun _ => ?_⟩
      by_cases h9 : 10 ≤ n / 10
      · exact h3 h9
      · rw [Lib.decDigits, dif_pos (by omega)] at e
        injection e with e1 _
        rw [← e1, UInt8.toNat_ofNat', Nat.mod_eq_of_lt (by omega)]
        omega
theorem parse_app : ∀ (a b : List UInt8) (acc u : Nat), Lib.parseUint10 acc a = .ok u → Lib.parseUint10 acc (a ++ b) = Lib.parseUint10 u b
  | [], b, acc, u, h => by simp [Lib.parseUint10] at h; subst h; rfl
  | c :: a, b, acc, u, h => by
    simp only [Lib.parseUint10, List.cons_append] at h ⊢
    split at h
    · split at h
      · cases h
      · split at h
        · cases h
        · rename_i h1 h2 h3
          rw [if_pos h1, if_neg h2, if_neg h3]
          exact parse_app a b _ u h
    · cases h
theorem parse_dec : ∀ (n : Nat), n < 18446744073709551616 → Lib.parseUint10 0 (Lib.decDigits n) = .ok n := by
  intro n
  induction n using Nat.strongRecOn with
  | _ n ih =>
    intro hn
    rw [Lib.decDigits]
    by_cases h : n < 10
    · rw [dif_pos h]
      have e : (UInt8.ofNat (48 + n)).toNat = 48 + n := by rw [UInt8.toNat_ofNat', Nat.mod_eq_of_lt (by omega)]
      simp only [Lib.parseUint10, e]
      rw [if_pos (by omega), if_neg (by omega), if_neg (by omega)]
      congr 1
      omega
    · rw [dif_neg h, parse_app _ _ _ _ (ih (n / 10) (by omega) (by omega))]
      have e : (UInt8.ofNat (48 + n % 10)).toNat = 48 + n % 10 := by rw [UInt8.toNat_ofNat', Nat.mod_eq_of_lt (by omega)]
      simp only [Lib.parseUint10, e]
      rw [if_pos (by omega), if_neg (by omega), if_neg (by omega)]
      congr 1
      omega
theorem atoi_dec (n : Nat) (h : n < 9223372036854775808) : Lib.atoiAll (Lib.decDigits n) = .ok n := by
  obtain ⟨c, r, e, h1, h2, -⟩ := dec_cons n
  have hp := parse_dec n (by omega)
  rw [e] at hp ⊢
  unfold Lib.atoiAll Lib.parseMag
  simp only
  rw [if_neg (show ¬ (c.toNat = 43 ∨ c.toNat = 45) by omega), if_neg (by simp), hp]
  simp only
  rw [if_neg (by omega), if_neg (by omega), if_neg (by omega)]

end Go.Proofs.YthdgehcghklflaaGreatDoor

/- The lines of a text, each with its end; strings.Lines, strings.CutSuffix. -/
namespace Go.Proofs.YthdgehcghklflaaGreatDoor
open Go.ChangeShapes Go.WideShapes Go.ChangeAt Go.RowKit Go.Shelf
attribute [local go_sem] Oper.semAt_some
set_option linter.unusedVariables false

/-- A sign ahead of the first line. -/
def onto (c : UInt8) : List (List UInt8) → List (List UInt8)
  | [] => [[c]]
  | x :: xs => (c :: x) :: xs
/-- The lines of a text, each with its end, if it has one. -/
def linesL : List UInt8 → List (List UInt8)
  | [] => []
  | c :: r => if c = 10 then [10] :: linesL r else onto c (linesL r)
/-- Line k. A plain definition, so that a walk leaves it alone. -/
def lineAt (text : List UInt8) (k : Nat) : List UInt8 := (linesL text).getD k []
theorem lines_more : ∀ (s r : List UInt8), Nl s → linesL (s ++ 10 :: r) = (s ++ [10]) :: linesL r
  | [], r, _ => by simp [linesL]
  | c :: s, r, h => by
    have ih := lines_more s r fun d hd => h d (List.mem_cons_of_mem _ hd)
    show linesL (c :: (s ++ 10 :: r)) = _
    rw [linesL, if_neg (h c List.mem_cons_self), ih]
    rfl
theorem lines_last : ∀ s : List UInt8, Nl s → s ≠ [] → linesL s = [s]
  | [], _, h => absurd rfl h
  | [c], h, _ => by simp [linesL, h c List.mem_cons_self, onto]
  | c :: d :: s, h, _ => by
    have ih := lines_last (d :: s) (fun x hx => h x (List.mem_cons_of_mem _ hx)) (by simp)
    rw [linesL, if_neg (h c List.mem_cons_self), ih]
    rfl
theorem lines_len : ∀ t : List UInt8, (linesL t).length ≤ t.length
  | [] => Nat.le_refl _
  | c :: t => by
    have ih := lines_len t
    rw [linesL]
    split
    · simp; omega
    · cases h : linesL t with
      | nil => simp [onto]
      | cons x y => rw [h] at ih; simp [onto] at ih ⊢; omega
theorem first_nl : ∀ t : List UInt8, Nl t ∨ ∃ s r, Nl s ∧ t = s ++ 10 :: r
  | [] => .inl (by unfold Nl; simp)
  | c :: t => by
    by_cases hc : c = 10
    · exact .inr ⟨[], t, by unfold Nl; simp, by rw [hc]; rfl⟩
    rcases first_nl t with h | ⟨s, r, hs, rfl⟩
    · exact .inl fun d hd => by
        rcases List.mem_cons.1 hd with rfl | hd
        · exact hc
        · exact h d hd
    · exact .inr ⟨c :: s, r, fun d hd => by
        rcases List.mem_cons.1 hd with rfl | hd
        · exact hc
        · exact hs d hd, rfl⟩
theorem index_no : ∀ t : List UInt8, Nl t → Lib.indexByte t 10 = -1
  | [], _ => rfl
  | c :: t, h => by
    have ih := index_no t fun d hd => h d (List.mem_cons_of_mem _ hd)
    have hc : (c == 10) = false := by simpa using h c List.mem_cons_self
    rw [Lib.indexByte, hc, ih]
    simp
theorem index_yes : ∀ s r : List UInt8, Nl s → Lib.indexByte (s ++ 10 :: r) 10 = s.length
  | [], r, _ => by simp [Lib.indexByte]
  | c :: s, r, h => by
    have ih := index_yes s r fun d hd => h d (List.mem_cons_of_mem _ hd)
    have hc : (c == 10) = false := by simpa using h c List.mem_cons_self
    show Lib.indexByte (c :: (s ++ 10 :: r)) 10 = _
    rw [Lib.indexByte, hc, ih]
    have : ((s.length : Int) == -1) = false := by simp
    simp [this]

theorem lIndex (s : List UInt8) (w : World) :
    Calls Tryz.prog 137 #[bs s, .int .u8 10] w fun e w' => e = .returned (.int .i64 (Lib.indexByte s 10)) ∧ w = w' :=
  (Any.strings_IndexByte Tryz.lays137 ⟨s.toArray⟩ 10 w).mono fun _ _ ⟨he, hw⟩ => ⟨he, hw.symm⟩

theorem run_lo (s r : List UInt8) (w : World) : (Instr.slice 9 (.string ⟨(s ++ 10 :: r).toArray⟩) none (some (.int .i64 ((s.length : Int) + 1))) none).run Tryz.prog w = .ok (.string ⟨(s ++ [10]).toArray⟩) w := by
  have hu := Tryz.underlying9
  go_simp
  rw [if_pos ⟨by omega, by omega⟩]
  refine congrArg (fun x => Result.ok (Value.string x) w) (ByteArray.ext ?_)
  rw [ByteArray.data_extract]
  apply Array.ext'
  simp
  rw [show s ++ 10 :: r = (s ++ [10]) ++ r by simp, show s.length + 1 = (s ++ [10]).length by simp, List.take_left]
theorem run_hi (s r : List UInt8) (w : World) : (Instr.slice 9 (.string ⟨(s ++ 10 :: r).toArray⟩) (some (.int .i64 ((s.length : Int) + 1))) none none).run Tryz.prog w = .ok (.string ⟨r.toArray⟩) w := by
  have hu := Tryz.underlying9
  go_simp
  rw [if_pos ⟨by omega, by omega⟩]
  refine congrArg (fun x => Result.ok (Value.string x) w) (ByteArray.ext ?_)
  rw [ByteArray.data_extract]
  apply Array.ext'
  simp
  exact List.take_of_length_le (by omega)
/-- How long the string in a box is. -/
def boxLen (w : World) (b : Nat) : Nat := match w.cell? ⟨b, 0, none⟩ with
  | some (.string s) => s.size
  | _ => 0
theorem boxLen_of {w : World} {b : Nat} {t : TypeId} {s : List UInt8} (h : Bk w b t #[bs s]) : boxLen w b = s.length := by
  unfold boxLen
  rw [h.cell 0]
  show s.toArray.size = _
  simp

set_option maxHeartbeats 1000000 in
theorem it_lines (text : List UInt8) (b l : Nat) (W1 : World) (hb : Bk W1 b 9 #[bs text]) (hlen : text.length < 1000000000) :
    Iter Tryz.prog 136 #[.pointer (some ⟨b, 0, none⟩)] (fun k => #[bs (lineAt text k)]) (linesL text).length l W1 (fun x => x = b) := by
  intro J Jx hJ hJx hY h0
  refine callsIn_of_wp Tryz.func136 rfl trivial ?_ rfl
  simp only [Tryz.ntmps136, List.size_toArray, List.length_cons, List.length_nil, Nat.reduceAdd, Nat.reduceSub, Array.replicate_succ, Array.replicate_zero, List.push_toArray, List.append_toArray, List.nil_append, List.cons_append]
  gi_wp2
  gi_loopw [3] (fun p wr => ∃ (k : Nat) (t : List UInt8), k ≤ (linesL text).length ∧ (linesL text).drop k = linesL t ∧ t.length ≤ text.length ∧ Bk wr b 9 #[bs t] ∧ J k wr) (fun p wr => boxLen wr b)
  case atStart => exact ⟨0, text, Nat.zero_le _, rfl, Nat.le_refl _, hb, h0⟩
  case round =>
    obtain ⟨k, t, hkl, hdr, hle, hbk, hj⟩ := hrel
    have hbl := boxLen_of hbk
    have hc0 : wr.cell? ⟨b, 0, none⟩ = some (.string ⟨t.toArray⟩) := hbk.cell 0
    have hfr := hbk.free 0
    by_cases ht : t = []
    · subst ht
      have hk : k = (linesL text).length := by
        have := congrArg List.length hdr
        simp [linesL] at this
        omega
      subst hk
      gi_wp2
      go_end0
      exact ⟨⟨_, rfl⟩, .inl hj⟩
    · have hpos : (0 : Int) < t.length := by
        have := List.length_pos_iff.2 ht
        omega
      have HI := Lib.hid (fun W => callsIn_wide (n := 0) |>.2 (lIndex t W))
      rcases first_nl t with hn | ⟨s, r, hn, rfl⟩
      · have hk1 : k < (linesL text).length := by
          have := congrArg List.length hdr
          rw [lines_last t hn ht] at this
          simp at this
          omega
        have hk2 : (linesL text).length = k + 1 := by
          have := congrArg List.length hdr
          rw [lines_last t hn ht] at this
          simp at this
          omega
        have hline : lineAt text k = t := by
          unfold lineAt
          have := congrArg List.head? hdr
          rw [lines_last t hn ht] at this
          simp [List.head?_drop] at this
          simp [List.getD_eq_getElem?_getD, this]
        have hi := index_no t hn
        have w1 : Within wr (wr.setCell ⟨b, 0, none⟩ (.string ⟨#[]⟩)) (fun x => x = b) := (Within.refl _ _).put b 0 _ (.inl rfl)
        have b1 : Bk (wr.setCell ⟨b, 0, none⟩ (.string ⟨#[]⟩)) b 9 #[bs []] := hbk.put 0 _
        have hj1 := hJ k _ _ hj w1
        obtain ⟨fn, tmps, assign, body, hy, hR⟩ := hY k _ hk1 hj1 (by rintro x rfl; exact b1.lt)
        rw [hline] at hy
        unfold bs at hy
        gi_wp2
        refine ⟨trivial, rfl, ?_⟩
        refine (HI.out _).mono ?_
        rintro e w' ⟨rfl, rfl⟩
        rw [hi]
        gi_wp2
        refine ⟨rfl, hR.mono ?_⟩
        rintro e W3 ⟨hh, (⟨rfl, hJ3⟩ | ⟨rfl, hJx3⟩)⟩
        · gi_wp2
          have b3 : Bk W3 b 9 #[bs []] := (hh.2 b rfl).trans b1
          go_roundw
          case rel => exact ⟨k + 1, [], by omega, by rw [List.drop_of_length_le (by omega)]; rfl, by simp, b3, hJ3⟩
          case measure => rw [boxLen_of b3, hbl]; simp; omega
        · gi_wp2
          refine bodyPost_ret (results_none rfl _ _ _) rfl ?_
          exact ⟨⟨_, rfl⟩, .inr hJx3⟩
      · have hk1 : k < (linesL text).length := by
          have := congrArg List.length hdr
          rw [lines_more s r hn] at this
          simp at this
          omega
        have hdr2 : (linesL text).drop (k + 1) = linesL r := by
          have := congrArg List.tail hdr
          rw [lines_more s r hn] at this
          simpa [List.tail_drop] using this
        have hline : lineAt text k = s ++ [10] := by
          unfold lineAt
          have := congrArg List.head? hdr
          rw [lines_more s r hn] at this
          simp [List.head?_drop] at this
          simp [List.getD_eq_getElem?_getD, this]
        have hi := index_yes s r hn
        have hi0 : (0 : Int) ≤ s.length := by omega
        have hwr : wrap64 ((s.length : Int) + 1) = (s.length : Int) + 1 := by
          simp at hle
          unfold wrap64
          omega
        have hcut1 : ∀ w, (Instr.slice 9 (.string ⟨(s ++ 10 :: r).toArray⟩) none (some (.int .i64 ((s.length : Int) + 1))) none).run Tryz.prog w = .ok (.string ⟨(s ++ [10]).toArray⟩) w := fun w => run_lo s r w
        have hcut2 : ∀ w, (Instr.slice 9 (.string ⟨(s ++ 10 :: r).toArray⟩) (some (.int .i64 ((s.length : Int) + 1))) none none).run Tryz.prog w = .ok (.string ⟨r.toArray⟩) w := fun w => run_hi s r w
        gi_wp2
        refine ⟨trivial, rfl, ?_⟩
        refine (HI.out _).mono ?_
        rintro e w' ⟨rfl, rfl⟩
        rw [hi]
        gi_wp2
        gi_region
        have w0 : Within wr (wr.setCell ⟨b, 0, none⟩ (.string ⟨r.toArray⟩)) (fun x => x = b) := (Within.refl _ _).put b 0 _ (.inl rfl)
        have w1 : Within wr (wr.setCell ⟨b, 0, none⟩ (.string ⟨r.toArray⟩)).drew (fun x => x = b) := ⟨w0.os, w0.tape, w0.output, w0.size, w0.block⟩
        clear w0
        have b1 : Bk (wr.setCell ⟨b, 0, none⟩ (.string ⟨r.toArray⟩)).drew b 9 #[bs r] := hbk.put 0 (.string ⟨r.toArray⟩)
        generalize (wr.setCell ⟨b, 0, none⟩ (.string ⟨r.toArray⟩)).drew = W2 at *
        have hj1 := hJ k _ _ hj w1
        obtain ⟨fn, tmps, assign, body, hy, hR⟩ := hY k _ hk1 hj1 (by rintro x rfl; exact b1.lt)
        rw [hline] at hy
        unfold bs at hy
        gi_wp2
        refine ⟨rfl, hR.mono ?_⟩
        rintro e W3 ⟨hh, (⟨rfl, hJ3⟩ | ⟨rfl, hJx3⟩)⟩
        · gi_wp2
          have b3 : Bk W3 b 9 #[bs r] := (hh.2 b rfl).trans b1
          go_roundw
          case rel => exact ⟨k + 1, r, by omega, hdr2, by simp at hle; omega, b3, hJ3⟩
          case measure => rw [boxLen_of b3, hbl]; simp; omega
        · gi_wp2
          refine bodyPost_ret (results_none rfl _ _ _) rfl ?_
          exact ⟨⟨_, rfl⟩, .inr hJx3⟩

/-- A box for the string, and the closure. -/
theorem lLines (s : List UInt8) (w : World) :
    Calls Tryz.prog 94 #[bs s] w fun e w' => e = .returned (.func (.func 136) #[] #[.pointer (some ⟨w.heap.size, 0, none⟩)]) ∧ w' = w.alloc (.cells #[bs s] 9) := by
  unfold bs
  go_enter Tryz.func94, Tryz.ntmps94
  go_wp2
  go_ret
  exact ⟨rfl, rfl⟩
theorem lCut (s p : List UInt8) (hl : s.length < 1000000) (w : World) :
    Calls Tryz.prog 95 #[bs s, bs p] w fun e w' => e = .returned (.tuple #[bs (Lib.trimSuffix s p), .bool (Lib.hasSuffix s p)]) ∧ w = w' :=
  (Any.strings_CutSuffix Tryz.lays104 ⟨s.toArray⟩ ⟨p.toArray⟩ w (by show s.toArray.size ≤ _; simp; omega)).mono fun _ _ ⟨he, hw⟩ => ⟨he, hw.symm⟩
theorem suf_yes (s : List UInt8) (c : UInt8) : Lib.hasSuffix (s ++ [c]) [c] = true ∧ Lib.trimSuffix (s ++ [c]) [c] = s := by
  have h : Lib.hasSuffix (s ++ [c]) [c] = true := by
    unfold Lib.hasSuffix
    rw [List.isSuffixOf_iff_suffix]
    exact ⟨s, rfl⟩
  refine ⟨h, ?_⟩
  unfold Lib.trimSuffix
  rw [if_pos h]
  simp
theorem suf_no {s : List UInt8} {c : UInt8} (h : ∀ t, s ≠ t ++ [c]) : Lib.hasSuffix s [c] = false ∧ Lib.trimSuffix s [c] = s := by
  have h : Lib.hasSuffix s [c] = false := by
    rw [Bool.eq_false_iff]
    intro e
    unfold Lib.hasSuffix at e
    rw [List.isSuffixOf_iff_suffix] at e
    obtain ⟨t, ht⟩ := e
    exact h t ht.symm
  refine ⟨h, ?_⟩
  unfold Lib.trimSuffix
  rw [if_neg (by rw [h]; simp)]
theorem suf_or (s : List UInt8) (c : UInt8) : (∃ t, s = t ++ [c]) ∨ ∀ t, s ≠ t ++ [c] := by
  by_cases h : ∃ t, s = t ++ [c]
  · exact .inl h
  · exact .inr fun t e => h ⟨t, e⟩
end Go.Proofs.YthdgehcghklflaaGreatDoor
