/- InstA, Flow, InstL, InstY, PrgM, InstB, WdB, InstR, TkT, InstC. -/
import Derived.Test.YthdgehcghklflaaGreatDoorKMem
import Derived.Test.YthdgehcghklflaaGreatDoorProg
import Derived.Lib.Hide
import Derived.WalkKit
import Derived.ProofKit
import Derived.WalkLawsBesides
import Derived.Test.YthdgehcghklflaaGreatDoorShelf
import Derived.Lib.AtoiErrMem
import Derived.Lib.AtoiAll
import Derived.Deep.RegionLaw
import Derived.Lib.IndexMore
import Derived.Deep.WholeRow
import Derived.Laws.Tables
import Derived.Lib.AtoiAllCases
/- Contracts of the leaf functions of inst: form, bounds, get, set. -/
namespace Go.Proofs.YthdgehcghklflaaGreatDoor
open Go.ChangeShapes Go.WideShapes Go.ChangeAt Go.RowKit
set_option linter.unusedVariables false

/-- An instruction as a value. -/
def iv (i : Ins) : Value := .agg #[.int .i64 i.op, .int .i64 i.d, .int .i64 i.s, .int .i64 i.t, .int .i64 i.u, .int .i64 i.a, .int .u32 i.k, .int .i64 i.pl]
theorem ret2_str (a b c d : List UInt8) (h1 : a = c) (h2 : b = d) : Ending.returned (.tuple #[.string ⟨a.toArray⟩, .string ⟨b.toArray⟩]) = .returned (.tuple #[bs c, bs d]) := by rw [h1, h2]; rfl

theorem cMemForm (op : Int) (h : op < 1 ∨ 13 < op) (w : World) :
    Calls Tryz.prog 146 #[.int .i64 op] w fun e w' => e = .returned (.tuple #[bs (nmL op), bs (hsL op)]) ∧ w = w' := by
  rcases op_cases op with rfl | rfl | rfl | rfl | rfl | rfl | rfl | rfl | rfl | rfl | rfl | rfl | rfl | rfl | rfl | rfl | rfl | rfl | rfl | rfl | rfl | hn
  rotate_right
  · obtain ⟨n1, n2, n3, n4, n5, n6, n7, n8, n9, n10, n11, n12, n13, n16, n17, n18, n19, n20, n21, n22, n23⟩ := hn
    have en : nmL op = [] := by unfold nmL; simp [*]
    have eh : hsL op = [] := by unfold hsL; simp [*]
    have E := Lib.hid en
    have F := Lib.hid eh
    clear en eh
    have b16 : (op == 16) = false := by simpa using n16
    have b17 : (op == 17) = false := by simpa using n17
    have b18 : (op == 18) = false := by simpa using n18
    have b19 : (op == 19) = false := by simpa using n19
    have b20 : (op == 20) = false := by simpa using n20
    have b21 : (op == 21) = false := by simpa using n21
    have b22 : (op == 22) = false := by simpa using n22
    have b23 : (op == 23) = false := by simpa using n23
    clear n1 n2 n3 n4 n5 n6 n7 n8 n9 n10 n11 n12 n13 n16 n17 n18 n19 n20 n21 n22 n23
    go_enter Tryz.func146, Tryz.ntmps146
    go_wp2
    go_ret2
    exact ⟨ret2_str _ _ _ _ E.out.symm F.out.symm, rfl⟩
  all_goals first | (exfalso; omega) | skip
  all_goals
    go_enter Tryz.func146, Tryz.ntmps146
    go_wp2
    go_ret2
    exact ⟨rfl, rfl⟩

theorem cForm (op : Int) (w : World) :
    Calls Tryz.prog 109 #[.int .i64 op] w fun e w' => e = .returned (.tuple #[bs (nmL op), bs (hsL op)]) ∧ w = w' := by
  by_cases h : op < 1 ∨ 13 < op
  · have hm := Lib.hid (cMemForm op h w)
    have b1 : (op == 1) = false := by simp; omega
    have b2 : (op == 2) = false := by simp; omega
    have b3 : (op == 3) = false := by simp; omega
    have b4 : (op == 4) = false := by simp; omega
    have b5 : (op == 5) = false := by simp; omega
    have b6 : (op == 6) = false := by simp; omega
    have b7 : (op == 7) = false := by simp; omega
    have b8 : (op == 8) = false := by simp; omega
    have b9 : (op == 9) = false := by simp; omega
    have b10 : (op == 10) = false := by simp; omega
    have b11 : (op == 11) = false := by simp; omega
    have b12 : (op == 12) = false := by simp; omega
    have b13 : (op == 13) = false := by simp; omega
    go_enter Tryz.func109, Tryz.ntmps109
    go_wp2_with fail
    refine hm.out.mono ?_
    rintro e w' ⟨rfl, rfl⟩
    go_wp2
    go_ret2
    exact ⟨rfl, rfl⟩
  · rcases op_cases op with rfl | rfl | rfl | rfl | rfl | rfl | rfl | rfl | rfl | rfl | rfl | rfl | rfl | rfl | rfl | rfl | rfl | rfl | rfl | rfl | rfl | hn
    rotate_right
    · exfalso; omega
    all_goals first | (exfalso; omega) | skip
    all_goals
      go_enter Tryz.func109, Tryz.ntmps109
      go_wp2
      go_ret2
      exact ⟨rfl, rfl⟩

theorem cBoundsK (op : Int) (p : Int) (w : World) :
    Calls Tryz.prog 147 #[.int .i64 op] w fun e w' => e = .returned (.tuple #[.int .i64 (lowI op 75), .int .i64 (endI op 75 p)]) ∧ w = w' := by
  by_cases h : op = 5 ∨ op = 6 ∨ op = 12 ∨ op = 13 ∨ op = 21
  · rcases h with rfl | rfl | rfl | rfl | rfl
    all_goals
      go_enter Tryz.func147, Tryz.ntmps147
      go_wp2
      go_ret2
      exact ⟨rfl, rfl⟩
  · have b5 : (op == 5) = false := by simp; omega
    have b6 : (op == 6) = false := by simp; omega
    have b12 : (op == 12) = false := by simp; omega
    have b13 : (op == 13) = false := by simp; omega
    have b21 : (op == 21) = false := by simp; omega
    have E := Lib.hid (show lowI op 75 = 0 by unfold lowI; simp; omega)
    have F := Lib.hid (show endI op 75 p = 4294967296 by unfold endI; simp; omega)
    go_enter Tryz.func147, Tryz.ntmps147
    go_wp2
    go_ret2
    exact ⟨by rw [E.out, F.out]; rfl, rfl⟩

theorem cBounds (op c p : Int) (hc : Ltr c) (w : World) :
    Calls Tryz.prog 110 #[.int .i64 op, .int .u8 c, .int .i64 p] w fun e w' => e = .returned (.tuple #[.int .i64 (lowI op c), .int .i64 (endI op c p)]) ∧ w = w' := by
  rcases hc with rfl | rfl | rfl | rfl | rfl | rfl | rfl
  rotate_right
  · by_cases h : op = 21
    · subst h
      by_cases hp : p < 0
      · have E := Lib.hid (show endI 21 80 p = 0 by unfold endI; simp [hp])
        have hq : ¬ (0 : Int) ≤ p := by omega
        go_enter Tryz.func110, Tryz.ntmps110
        go_wp2
        go_ret2
        exact ⟨by rw [E.out]; rfl, rfl⟩
      · have E := Lib.hid (show endI 21 80 p = p by unfold endI; simp; omega)
        have hq : (0 : Int) ≤ p := by omega
        go_enter Tryz.func110, Tryz.ntmps110
        go_wp2
        go_ret2
        exact ⟨by rw [E.out]; rfl, rfl⟩
    · have b21 : (op == 21) = false := by simpa using h
      have E := Lib.hid (show endI op 80 p = p by unfold endI; simp [h])
      have F := Lib.hid (show lowI op 80 = 0 by unfold lowI; simp [h])
      go_enter Tryz.func110, Tryz.ntmps110
      go_wp2
      go_ret2
      exact ⟨by rw [E.out, F.out]; rfl, rfl⟩
  rotate_right
  · have H := Lib.hid (cBoundsK op p w)
    go_enter Tryz.func110, Tryz.ntmps110
    go_wp2_with fail
    refine H.out.mono ?_
    rintro e w' ⟨rfl, rfl⟩
    go_wp2
    go_ret2
    exact ⟨rfl, rfl⟩
  all_goals
    go_enter Tryz.func110, Tryz.ntmps110
    go_wp2
    go_ret2
    exact ⟨rfl, rfl⟩

theorem cGet (i : Ins) (c : Int) (hc : Ltr c) (k0 : 0 ≤ i.k) (k1 : i.k < 4294967296) (w : World) :
    Calls Tryz.prog 111 #[iv i, .int .u8 c] w fun e w' => e = .returned (.int .i64 (getI i c)) ∧ Below w.heap.size w w' := by
  obtain ⟨op, d, s, t, u, a, k, pl⟩ := i
  simp only at k0 k1
  unfold iv
  rcases hc with rfl | rfl | rfl | rfl | rfl | rfl | rfl
  all_goals
    go_enter Tryz.func111, Tryz.ntmps111
    go_wp2
    go_ret
    exact ⟨rfl, (Below.refl _ _).alloc (Nat.le_refl _) _⟩

theorem cSet (i : Ins) (c v : Int) (hc : Ltr c) (w : World) :
    Calls Tryz.prog 112 #[iv i, .int .u8 c, .int .i64 v] w fun e w' => e = .returned (iv (setI i c v)) ∧ Below w.heap.size w w' := by
  obtain ⟨op, d, s, t, u, a, k, pl⟩ := i
  unfold iv
  rcases hc with rfl | rfl | rfl | rfl | rfl | rfl | rfl
  · go_enter Tryz.func112, Tryz.ntmps112
    go_wp2
    refine bodyPost_ret (v := .agg #[.int .i64 op, .int .i64 v, .int .i64 s, .int .i64 t, .int .i64 u, .int .i64 a, .int .u32 k, .int .i64 pl]) (by simp [results, Tryz.results112, go_sem]) rfl ⟨rfl, ?_⟩
    exact ((Below.refl _ _).alloc (Nat.le_refl _) _).alloc (by simp) _
  · go_enter Tryz.func112, Tryz.ntmps112
    go_wp2
    refine bodyPost_ret (v := .agg #[.int .i64 op, .int .i64 d, .int .i64 v, .int .i64 t, .int .i64 u, .int .i64 a, .int .u32 k, .int .i64 pl]) (by simp [results, Tryz.results112, go_sem]) rfl ⟨rfl, ?_⟩
    exact ((Below.refl _ _).alloc (Nat.le_refl _) _).alloc (by simp) _
  · go_enter Tryz.func112, Tryz.ntmps112
    go_wp2
    refine bodyPost_ret (v := .agg #[.int .i64 op, .int .i64 d, .int .i64 s, .int .i64 v, .int .i64 u, .int .i64 a, .int .u32 k, .int .i64 pl]) (by simp [results, Tryz.results112, go_sem]) rfl ⟨rfl, ?_⟩
    exact ((Below.refl _ _).alloc (Nat.le_refl _) _).alloc (by simp) _
  · go_enter Tryz.func112, Tryz.ntmps112
    go_wp2
    refine bodyPost_ret (v := .agg #[.int .i64 op, .int .i64 d, .int .i64 s, .int .i64 t, .int .i64 v, .int .i64 a, .int .u32 k, .int .i64 pl]) (by simp [results, Tryz.results112, go_sem]) rfl ⟨rfl, ?_⟩
    exact ((Below.refl _ _).alloc (Nat.le_refl _) _).alloc (by simp) _
  · go_enter Tryz.func112, Tryz.ntmps112
    go_wp2
    refine bodyPost_ret (v := .agg #[.int .i64 op, .int .i64 d, .int .i64 s, .int .i64 t, .int .i64 u, .int .i64 v, .int .u32 k, .int .i64 pl]) (by simp [results, Tryz.results112, go_sem]) rfl ⟨rfl, ?_⟩
    exact ((Below.refl _ _).alloc (Nat.le_refl _) _).alloc (by simp) _
  · go_enter Tryz.func112, Tryz.ntmps112
    go_wp2
    refine bodyPost_ret (v := .agg #[.int .i64 op, .int .i64 d, .int .i64 s, .int .i64 t, .int .i64 u, .int .i64 a, .int .u32 (v % 4294967296), .int .i64 pl]) (by simp [results, Tryz.results112, go_sem]) rfl ⟨rfl, ?_⟩
    exact ((Below.refl _ _).alloc (Nat.le_refl _) _).alloc (by simp) _
  · go_enter Tryz.func112, Tryz.ntmps112
    go_wp2
    refine bodyPost_ret (v := .agg #[.int .i64 op, .int .i64 d, .int .i64 s, .int .i64 t, .int .i64 u, .int .i64 a, .int .u32 k, .int .i64 v]) (by simp [results, Tryz.results112, go_sem]) rfl ⟨rfl, ?_⟩
    exact ((Below.refl _ _).alloc (Nat.le_refl _) _).alloc (by simp) _

end Go.Proofs.YthdgehcghklflaaGreatDoor

/- A region that draws its order, whose stores (or calls that change memory) come in one order of their own, while all else may come at whatever place: over any program. -/
namespace Go.Proofs.YthdgehcghklflaaGreatDoor
open Go.ChangeShapes Go.WideShapes Go.ChangeAt Go.RowKit
set_option linter.unusedVariables false

/-- How many of the changing ones are done for sure ahead of operation i; how many at most. -/
def loOf (ops : Array Oper) (st : List Nat) (i : Nat) : Nat := (st.filter fun s => (depsOf ops i).contains s).length
def hiOf (ops : Array Oper) (st : List Nat) (i : Nat) : Nat := st.findIdx fun s => (depsOf ops s).contains i
/-- Each of the changing ones waits for the one ahead of it. -/
def chainS (ops : Array Oper) : List Nat → Bool
  | s :: t :: l => (depsOf ops t).contains s && (decide (s < ops.size) && chainS ops (t :: l))
  | [s] => decide (s < ops.size)
  | [] => true
/-- What is to be shown of each operation. -/
def eachFlow (P : Program) (ops : Array Oper) (F : Nat → Value → World → Prop) (Wp : Nat → World → Prop) (Step : Nat → World → World → Prop) (lit : (Nat → Value) → Act) (st : List Nat) : List Oper → Nat → Prop
  | [], _ => True
  | o :: l, i => (match st.contains i with
    | true => ∀ (vs : Nat → Value) W, Wp (st.idxOf i) W → (∀ j ∈ depsOf ops i, F j (vs j) W) → leavesIf P ops (fun v W' => F i v W' ∧ Wp (st.idxOf i + 1) W' ∧ Step (st.idxOf i) W W') o (lit vs) W
    | false => ∀ (vs : Nat → Value) W k, loOf ops st i ≤ k → k ≤ hiOf ops st i → Wp k W → (∀ j ∈ depsOf ops i, F j (vs j) W) → leavesOp P ops (F i) o (lit vs) W) ∧ eachFlow P ops F Wp Step lit st l (i + 1)
theorem eachFlow_at {P : Program} {ops : Array Oper} {F : Nat → Value → World → Prop} {Wp : Nat → World → Prop} {Step : Nat → World → World → Prop} {lit : (Nat → Value) → Act} {st : List Nat} : ∀ (l : List Oper) (b i : Nat) (o : Oper), eachFlow P ops F Wp Step lit st l b → l[i]? = some o →
    (st.contains (b + i) = true → ∀ (vs : Nat → Value) W, Wp (st.idxOf (b + i)) W → (∀ j ∈ depsOf ops (b + i), F j (vs j) W) → leavesIf P ops (fun v W' => F (b + i) v W' ∧ Wp (st.idxOf (b + i) + 1) W' ∧ Step (st.idxOf (b + i)) W W') o (lit vs) W) ∧
    (st.contains (b + i) = false → ∀ (vs : Nat → Value) W k, loOf ops st (b + i) ≤ k → k ≤ hiOf ops st (b + i) → Wp k W → (∀ j ∈ depsOf ops (b + i), F j (vs j) W) → leavesOp P ops (F (b + i)) o (lit vs) W)
  | [], b, i, o, _, hi => by simp at hi
  | x :: l, b, 0, o, h, hi => by
    simp only [List.getElem?_cons_zero, Option.some.injEq] at hi
    subst hi
    have h1 := h.1
    simp only [Nat.add_zero]
    constructor
    · intro e; rw [e] at h1; exact h1
    · intro e; rw [e] at h1; exact h1
  | x :: l, b, i + 1, o, h, hi => by
    have := eachFlow_at l (b + 1) i o h.2 (by simpa using hi)
    rw [show b + 1 + i = b + (i + 1) by omega] at this
    exact this

theorem chainS_at {ops : Array Oper} : ∀ (st : List Nat), chainS ops st = true → ∀ (j s t : Nat), st[j]? = some s → st[j + 1]? = some t → s ∈ depsOf ops t
  | [], _, j, s, t, h, _ => by simp at h
  | [x], _, j, s, t, _, h => by simp at h
  | x :: y :: l, h, 0, s, t, h1, h2 => by
    simp at h1 h2
    subst h1; subst h2
    simp only [chainS, Bool.and_eq_true] at h
    simpa using h.1
  | x :: y :: l, h, j + 1, s, t, h1, h2 => by
    simp only [chainS, Bool.and_eq_true] at h
    exact chainS_at (y :: l) h.2.2 j s t (by simpa using h1) (by simpa using h2)
theorem chainS_lt {ops : Array Oper} : ∀ (st : List Nat), chainS ops st = true → ∀ s ∈ st, s < ops.size
  | [], _, s, h => by simp at h
  | [x], h, s, hs => by simp at hs; subst hs; simpa [chainS] using h
  | x :: y :: l, h, s, hs => by
    simp only [chainS, Bool.and_eq_true, decide_eq_true_eq] at h
    rcases List.mem_cons.1 hs with rfl | hs
    · exact h.2.1
    · exact chainS_lt (y :: l) h.2.2 s hs

theorem wp_region_flow {P : Program} {l : List Oper} {Q : Exit → Act → World → Prop} {id : Nat} {a : Act} {w : World} (st : List Nat) (Wp : Nat → World → Prop) (Step : Nat → World → World → Prop) (lit : (Nat → Value) → Act) (F : Nat → Value → World → Prop)
    (hm : P.follows .mixedOrders = true) (hr : relyB l.toArray = true) (hc : chainS l.toArray st = true) (hnd : st.Nodup) (hlit : ∀ vs, frameOf l.toArray a (fun _ => true) vs = lit vs)
    (h0 : Wp 0 w)
    (hW : ∀ k W W', Wp k W → Below W.heap.size W W' → Wp k W')
    (hF : ∀ i v W W', F i v W → Below W.heap.size W W' → F i v W')
    (hS : ∀ k W W', Wp k W → Step k W W' → ∀ i v, F i v W → F i v W')
    (hop : eachFlow P l.toArray F Wp Step lit st l 0)
    (hend : ∀ (vs : Nat → Value) W, Wp st.length W → (∀ i, i < l.length → F i (vs i) W) → Q .normal (lit vs) W) : (Code.region id l.toArray true).wp P Q a w := by
  refine wp_region_holds hm hr (fun d vs W => ∃ k, k ≤ st.length ∧ (∀ j s, st[j]? = some s → (d s = true ↔ j < k)) ∧ (∀ i, d i = true → ∀ j ∈ depsOf l.toArray i, d j = true) ∧ Wp k W ∧ ∀ i, d i = true → F i (vs i) W) ?_ ?_ ?_
  · exact ⟨0, Nat.zero_le _, fun j s _ => by simp, (fun i h => by cases h), hW 0 _ _ h0 (Below.refl _ _).drew, (fun i h => by cases h)⟩
  · rintro i o ho d vs W ⟨k, hk, hst, hcl, hWk, hFd⟩ hdi hdep
    have ho' : l[i]? = some o := by simpa using ho
    rw [hlit]
    obtain ⟨e1, e2⟩ := eachFlow_at l 0 i o hop ho'
    rw [Nat.zero_add] at e1 e2
    have hFdep : ∀ j ∈ depsOf l.toArray i, F j (vs j) W := fun j hj => hFd j (hdep j hj)
    cases hci : st.contains i with
    | true =>
      have hmem : i ∈ st := by simpa using hci
      have hidx : st.idxOf i < st.length := List.idxOf_lt_length_iff.2 hmem
      have hat : st[st.idxOf i]? = some i := by rw [List.getElem?_eq_getElem hidx, List.getElem_idxOf hidx]
      -- it is the next one
      have hki : st.idxOf i = k := by
        have h1 : ¬ st.idxOf i < k := fun h => by
          have := (hst _ i hat).2 h
          rw [hdi] at this; cases this
        rcases Nat.lt_or_eq_of_le (Nat.le_of_not_lt h1) with h2 | h2
        · exfalso
          -- the one ahead is done, so all ahead are
          have hp : st.idxOf i - 1 + 1 = st.idxOf i := by omega
          have hpl : st.idxOf i - 1 < st.length := by omega
          have hs := chainS_at st hc (st.idxOf i - 1) st[st.idxOf i - 1] i (List.getElem?_eq_getElem hpl) (by rw [hp]; exact hat)
          have hd := hdep _ hs
          have := (hst _ _ (List.getElem?_eq_getElem hpl)).1 hd
          omega
        · exact h2.symm
      have h3 := e1 hci vs W (by rw [hki]; exact hWk) hFdep
      refine leavesIf_mono h3 ?_
      rintro v W' ⟨hv, hW2, hstep⟩
      rw [hki] at hW2 hstep
      refine ⟨k + 1, by omega, fun j s hs => ?_, fun x hx j hj => by
        by_cases e : x = i
        · subst e; have h4 := hdep j hj; by_cases e2 : j = x <;> simp [e2, h4]
        · simp only [if_neg e] at hx; have h4 := hcl x hx j hj; by_cases e2 : j = i <;> simp [e2, h4], hW2, fun j hj => ?_⟩
      · by_cases e : s = i
        · subst e
          have hj : j = k := by
            rw [← hki]
            have hjl := (List.getElem?_eq_some_iff.1 hs).1
            have hsj := (List.getElem?_eq_some_iff.1 hs).2
            have := hnd.idxOf_getElem j hjl
            rw [hsj] at this
            exact this.symm
          simp; omega
        · simp only [if_neg e]
          rw [hst j s hs]
          constructor
          · omega
          · intro h
            by_cases hj : j = k
            · exfalso
              subst hj
              rw [← hki, hat] at hs
              injection hs with hs
              exact e hs.symm
            · omega
      · by_cases e : j = i
        · subst e; simp only [if_true]; exact hv
        · simp only [if_neg e] at hj ⊢
          exact hS k W W' hWk hstep j _ (hFd j hj)
    | false =>
      have hnm : i ∉ st := by simpa using hci
      have hlo : loOf l.toArray st i ≤ k := by
        unfold loOf
        have hsub : ∀ (s : List Nat) (b : Nat), (∀ j x, s[j]? = some x → st[b + j]? = some x) → (s.filter fun x => (depsOf l.toArray i).contains x).length ≤ k - b := by
          intro s
          induction s with
          | nil => intro b _; simp
          | cons x s ih =>
            intro b hb
            have hx := hb 0 x (by simp)
            rw [Nat.add_zero] at hx
            have ih2 := ih (b + 1) (fun j y hy => by rw [show b + 1 + j = b + (j + 1) by omega]; exact hb (j + 1) y (by simpa using hy))
            rw [List.filter_cons]
            split
            · rename_i hcx
              have hd := hdep x (by simpa using hcx)
              have := (hst b x hx).1 hd
              simp only [List.length_cons]
              omega
            · omega
        have := hsub st 0 (fun j x h => by rw [Nat.zero_add]; exact h)
        omega
      have hhi : k ≤ hiOf l.toArray st i := by
        unfold hiOf
        rcases Nat.lt_or_ge (st.findIdx fun s => (depsOf l.toArray s).contains i) st.length with h | h
        · refine Nat.le_of_not_lt fun hlt => ?_
          have hp := List.findIdx_getElem (w := h)
          have hd := (hst _ _ (List.getElem?_eq_getElem h)).2 hlt
          -- what is done had all that it waits for done
          have := hcl _ hd i (by simpa using hp)
          rw [hdi] at this
          cases this
        · omega
      exact leavesIf_of (e2 hci vs W k hlo hhi hWk hFdep) (fun v W' hv hb => ⟨k, hk, fun j s hs => by
        have hne : s ≠ i := fun e => hnm (e ▸ List.mem_of_getElem? hs)
        simp only [if_neg hne]
        exact hst j s hs, fun x hx j hj => by
        by_cases e : x = i
        · subst e; have h4 := hdep j hj; by_cases e2 : j = x <;> simp [e2, h4]
        · simp only [if_neg e] at hx; have h4 := hcl x hx j hj; by_cases e2 : j = i <;> simp [e2, h4], hW k W W' hWk hb, fun j hj => by
        by_cases e : j = i
        · subst e; simp only [if_true]; exact hv
        · simp only [if_neg e] at hj ⊢
          exact hF j _ W W' (hFd j hj) hb⟩)
  · rintro d vs W ⟨k, hk, hst, hcl, hWk, hFd⟩ hall
    rw [hlit]
    have hks : k = st.length := by
      rcases Nat.lt_or_eq_of_le hk with h | h
      · exfalso
        have h1 := (hst k _ (List.getElem?_eq_getElem h))
        have h2 := hall st[k] (chainS_lt st hc _ (List.getElem_mem h))
        have := h1.1 h2
        omega
      · exact h
    rw [hks] at hWk
    exact hend vs W hWk (fun i hi => hFd i (hall i (by simpa using hi)))
end Go.Proofs.YthdgehcghklflaaGreatDoor

/- What of the library's variables the calls read, and the contracts of strconv.Itoa, strconv.Atoi, strings.TrimPrefix and strings.SplitN over lists of bytes. -/
namespace Go.Proofs.YthdgehcghklflaaGreatDoor
open Go.ChangeShapes Go.WideShapes Go.ChangeAt Go.RowKit Go.Sort
set_option linter.unusedVariables false

/-- What the library's own variables hold. -/
structure Lb (w : World) : Prop where
  tab : Lib.TabIs Tryz.prog w "internal/strconv.uint64pow10" .u64 Lib.pow10Tab
  syn : ∃ tp p, w.var? Tryz.prog "strconv.ErrSyntax" = some #[.iface tp p]
  rng : ∃ tp p, w.var? Tryz.prog "strconv.ErrRange" = some #[.iface tp p]
  mx : ∃ m, w.cell? ⟨0, 0, none⟩ = some (.int .i64 m)
  low : 0 < w.heap.size ∧ 5 < w.heap.size ∧ 1 < w.heap.size ∧ 2 < w.heap.size

theorem Lb.below {w w' : World} (h : Lb w) (hb : Below w.heap.size w w') : Lb w' := by
  obtain ⟨l0, l1, l2, l3⟩ := h.low
  have hz := hb.size
  refine ⟨?_, ?_, ?_, ?_, by omega, by omega, by omega, by omega⟩
  · exact var?_below hb (g := 5) (by kernel_rfl) (by omega) h.tab
  · obtain ⟨tp, p, e⟩ := h.syn
    exact ⟨tp, p, var?_below hb (g := 1) (by kernel_rfl) (by omega) e⟩
  · obtain ⟨tp, p, e⟩ := h.rng
    exact ⟨tp, p, var?_below hb (g := 2) (by kernel_rfl) (by omega) e⟩
  · obtain ⟨m, e⟩ := h.mx
    exact ⟨m, (hb.cell (p := ⟨0, 0, none⟩) (by show 0 < _; omega)).trans e⟩
theorem Lb.grw {w : World} (h : Lb w) (g : Grw w) : Lb g.x := h.below g.ok

theorem below_grow (w : World) (k : Nat) (os : Array Obj) : Below w.heap.size w (grow (w.drewN k) os) := by
  refine ⟨rfl, rfl, rfl, ?_, fun j hj => ?_⟩
  · show w.heap.size ≤ (w.heap ++ os).size
    simp
  · show (w.heap ++ os)[j]? = w.heap[j]?
    rw [Array.getElem?_append_left hj]

theorem lItoa (n : Int) (h0 : -9223372036854775808 ≤ n) (h1 : n ≤ 9223372036854775807) (w : World) (L : Lb w) :
    Calls Tryz.prog 181 #[.int .i64 n] w fun e w' => e = .returned (bs (Lib.itoa n)) ∧ Below w.heap.size w w' :=
  (Any.strconv_Itoa Tryz.laysM171 n h0 h1 w L.tab).mono fun _ _ ⟨he, k, os, hw⟩ => ⟨he, by rw [hw]; exact below_grow w k os⟩

theorem lTrim (s p : List UInt8) (w : World) :
    Calls Tryz.prog 177 #[bs s, bs p] w fun e w' => e = .returned (bs (Lib.trimPrefix s p)) ∧ w = w' :=
  (Any.strings_TrimPrefix Tryz.lays101 ⟨s.toArray⟩ ⟨p.toArray⟩ w).mono fun _ _ ⟨he, hw⟩ => ⟨he, hw.symm⟩

theorem lAtoiOk (s : List UInt8) (hl : s.length ≤ 281474976710656) (v : Int) (h : Lib.atoiAll s = .ok v) (w : World) :
    Calls Tryz.prog 176 #[bs s] w fun e w' => e = .returned (.tuple #[.int .i64 v, .nilIface]) ∧ Below w.heap.size w w' := by
  have hs : (⟨s.toArray⟩ : ByteArray).size = s.length := by simp [ByteArray.size]
  refine (Any.strconv_Atoi_ok Tryz.laysC172 ⟨s.toArray⟩ (by omega) v h w).mono fun e w' ⟨he, hw⟩ => ⟨he, ?_⟩
  rcases hw with rfl | ⟨t, rfl⟩
  · exact Below.refl _ _
  · exact Lib.bytesWorld_below _ _ _

/-- An error, and nothing that was there has changed. -/
def Failed (w : World) (e : Ending) (w' : World) : Prop := ∃ (v : Int) (b : Nat), e = .returned (.tuple #[.int .i64 v, .iface 287 (.pointer (some ⟨b, 0, none⟩))]) ∧ Below w.heap.size w w'

theorem lAtoiNo (s : List UInt8) (hl : s.length ≤ 281474976710656) (h : ∀ v, Lib.atoiAll s ≠ .ok v) (w : World) (L : Lb w) :
    Calls Tryz.prog 176 #[bs s] w (Failed w) := by
  have hs : (⟨s.toArray⟩ : ByteArray).size = s.length := by simp [ByteArray.size]
  cases ha : Lib.atoiAll s with
  | ok v => exact absurd ha (h v)
  | range =>
    obtain ⟨tp, p, hv⟩ := L.rng
    exact (Any.strconv_Atoi_range_var Tryz.laysC172 ⟨s.toArray⟩ (by omega) ha tp p w hv).mono fun e w' ⟨N, he, _, _, hb⟩ => ⟨_, N, he, hb⟩
  | _ =>
    obtain ⟨tp, p, hv⟩ := L.syn
    exact (Any.strconv_Atoi_syntax_var Tryz.laysC172 ⟨s.toArray⟩ (by omega) ha tp p w hv).mono fun e w' ⟨N, he, _, _, hb⟩ => ⟨_, N, he, hb⟩

/-- The words of a text, as inst.Parse splits it: at most nine. -/
def splitL (s : List UInt8) : List (List UInt8) := Lib.splitN s [32] 9 -- 162

/-- The value v is a slice of just these strings, in a row of the call's own making. -/
def Strs (w : World) (v : Value) (ws : List (List UInt8)) : Prop :=
  ∃ g cap, v = .slice (some ⟨g, 0, none⟩) ws.length cap ∧ ws.length ≤ cap ∧ cap ≤ 1000000 ∧ g < w.heap.size ∧ ∀ n, n < ws.length → w.cell? ⟨g, n, none⟩ = some (bs (ws.getD n []))
theorem Strs.below {w w' : World} {v : Value} {ws : List (List UInt8)} (h : Strs w v ws) (hb : Below w.heap.size w w') : Strs w' v ws := by
  obtain ⟨g, cap, e, h1, h2, h3, h4⟩ := h
  exact ⟨g, cap, e, h1, h2, Nat.lt_of_lt_of_le h3 hb.size, fun n hn => (hb.cell (p := ⟨g, n, none⟩) h3).trans (h4 n hn)⟩

theorem lSplit (s : List UInt8) (hl : s.length < 4294967281) (w : World) (L : Lb w) :
    Calls Tryz.prog 162 #[bs s, bs [32], .int .i64 9] w fun e w' => ∃ v, e = .returned v ∧ Strs w' v (splitL s) ∧ Below w.heap.size w w' := by
  obtain ⟨m, hm⟩ := L.mx
  have hs : (⟨s.toArray⟩ : ByteArray).size = s.length := by simp [ByteArray.size]
  refine (Any.strings_SplitN { Tryz.laysM147 with } Tryz.laysM147.i9 ⟨s.toArray⟩ ⟨#[32]⟩ 9 m w (by omega) hm (by decide) (by decide) (by decide)).mono fun e w' ⟨he, hw⟩ => ?_
  have hdat := Lib.splitB_data ⟨#[32]⟩ 0 (min 9 ((⟨s.toArray⟩ : ByteArray).size + 1) - 1) ⟨s.toArray⟩
  have hle := Lib.splitB_length_le ⟨#[32]⟩ 0 (min 9 ((⟨s.toArray⟩ : ByteArray).size + 1) - 1) ⟨s.toArray⟩
  generalize hl2 : Lib.splitB ⟨#[32]⟩ 0 (min 9 ((⟨s.toArray⟩ : ByteArray).size + 1) - 1) ⟨s.toArray⟩ = l at *
  have hlen : (splitL s).length = l.length := by
    unfold splitL Lib.splitN
    rw [← hs]
    have := congrArg List.length hdat
    simpa using this.symm
  have hcap : min 9 ((⟨s.toArray⟩ : ByteArray).size + 1) ≤ 9 := Nat.min_le_left _ _
  have hcap1 : 1 ≤ min 9 ((⟨s.toArray⟩ : ByteArray).size + 1) := by omega
  subst hw
  refine ⟨_, he, ⟨w.heap.size, min 9 ((⟨s.toArray⟩ : ByteArray).size + 1), by rw [hlen], by omega, by omega, by simp, fun n hn => ?_⟩, (Below.refl _ _).alloc (Nat.le_refl _) _⟩
  rw [cell_of_row _ _ _ _ _ _ (heap_alloc_new w _)]
  rw [hlen] at hn
  have h1 : (Lib.cellsOf l (min 9 ((⟨s.toArray⟩ : ByteArray).size + 1)))[n]? = some (.string l[n]) := by
    unfold Lib.cellsOf
    rw [List.getElem?_toArray, List.getElem?_append_left (by simpa using hn), List.getElem?_map, List.getElem?_eq_getElem hn]
    rfl
  rw [h1]
  have h2 : (splitL s).getD n [] = l[n].data.toList := by
    have h3 : splitL s = l.map (·.data.toList) := by rw [hdat]; unfold splitL Lib.splitN; rw [hs]
    rw [h3]
    simp [hn]
  rw [h2]
  rfl

end Go.Proofs.YthdgehcghklflaaGreatDoor

/- The document's Words. -/
namespace Go.Proofs.YthdgehcghklflaaGreatDoor
open Go.ChangeShapes Go.WideShapes Go.ChangeAt Go.RowKit
set_option linter.unusedVariables false

/-- A byte ahead of the first word. -/
def ahead (c : UInt8) : List (List UInt8) → List (List UInt8)
  | [] => [[c]]
  | l :: r => (c :: l) :: r
/-- What stands between blanks. -/
def wordsL : List UInt8 → List (List UInt8)
  | [] => [[]]
  | c :: r => if c = 32 then [] :: wordsL r else ahead c (wordsL r)

theorem wordsL_pos : ∀ s, 0 < (wordsL s).length
  | [] => by simp [wordsL]
  | c :: r => by
    unfold wordsL
    split
    · simp
    · have := wordsL_pos r
      generalize wordsL r = ws at *
      cases ws with
      | nil => simp at this
      | cons a b => simp [ahead]
theorem wordsL_one : ∀ t : List UInt8, (∀ c ∈ t, c ≠ 32) → wordsL t = [t]
  | [], _ => rfl
  | c :: r, h => by
    unfold wordsL
    rw [if_neg (h c List.mem_cons_self), wordsL_one r fun d hd => h d (List.mem_cons_of_mem _ hd)]
    rfl
theorem wordsL_more : ∀ (t r : List UInt8), (∀ c ∈ t, c ≠ 32) → wordsL (t ++ 32 :: r) = t :: wordsL r
  | [], r, _ => by simp [wordsL]
  | c :: t, r, h => by
    have e : wordsL (c :: (t ++ 32 :: r)) = ahead c (wordsL (t ++ 32 :: r)) := by
      rw [wordsL, if_neg (h c List.mem_cons_self)]
    show wordsL (c :: (t ++ 32 :: r)) = _
    rw [e, wordsL_more t r fun d hd => h d (List.mem_cons_of_mem _ hd)]
    rfl
theorem wordsL_len : ∀ s : List UInt8, (wordsL s).length ≤ s.length + 1
  | [] => by simp [wordsL]
  | c :: r => by
    have h := wordsL_len r
    unfold wordsL
    split
    · simp; omega
    · generalize wordsL r = ws at *
      cases ws with
      | nil => simp [ahead]
      | cons a b => simp [ahead] at *; omega
theorem wordsL_le : ∀ s : List UInt8, ∀ l ∈ wordsL s, l.length ≤ s.length
  | [], l, h => by simp [wordsL] at h; subst h; simp
  | c :: r, l, h => by
    have ih := wordsL_le r
    unfold wordsL at h
    split at h
    · rcases List.mem_cons.1 h with rfl | h
      · simp
      · have := ih l h; simp; omega
    · generalize wordsL r = ws at *
      cases ws with
      | nil => simp [ahead] at h; subst h; simp
      | cons a b =>
        simp only [ahead] at h
        rcases List.mem_cons.1 h with rfl | h
        · have := ih a List.mem_cons_self; simp; omega
        · have := ih l (List.mem_cons_of_mem _ h); simp; omega

/-- At place i of s, the word that is under way begun at f: the words so far. -/
structure WordsAt (s : List UInt8) (out : List (List UInt8)) (f i : Nat) : Prop where
  le : f ≤ i
  no : ∀ j, f ≤ j → j < i → s.getD j 0 ≠ 32
  all : out ++ wordsL (s.drop f) = wordsL s
  few : out.length ≤ f

theorem cut_no {s : List UInt8} {f i : Nat} (hi : i ≤ s.length) (h : ∀ j, f ≤ j → j < i → s.getD j 0 ≠ 32) : ∀ c ∈ (s.take i).drop f, c ≠ 32 := by
  intro c hc
  obtain ⟨n, hn, rfl⟩ := List.getElem_of_mem hc
  have h1 := h (f + n) (by omega) (by simp at hn; omega)
  simp at hn
  rw [List.getElem_drop, List.getElem_take]
  simpa [show f + n < s.length by omega] using h1
theorem WordsAt.blank {s : List UInt8} {out : List (List UInt8)} {f i : Nat} (h : WordsAt s out f i) (hi : i < s.length) (hc : s.getD i 0 = 32) : WordsAt s (out ++ [(s.take i).drop f]) (i + 1) (i + 1) := by
  refine ⟨Nat.le_refl _, fun j h1 h2 => by omega, ?_, by have := h.few; have := h.le; simp; omega⟩
  rw [← h.all, List.append_assoc]
  congr 1
  have e : s.drop f = (s.take i).drop f ++ 32 :: s.drop (i + 1) := by
    have e1 : s = s.take i ++ 32 :: s.drop (i + 1) := by
      have hg : s[i] = 32 := by simpa [hi] using hc
      rw [← hg, ← List.drop_eq_getElem_cons hi, List.take_append_drop]
    have hle : f ≤ (s.take i).length := by have := h.le; simp; omega
    rw [← List.drop_append_of_le_length hle, ← e1]
  rw [e, wordsL_more _ _ (cut_no (by omega) h.no)]
  rfl
theorem WordsAt.last {s : List UInt8} {out : List (List UInt8)} {f : Nat} (h : WordsAt s out f s.length) : out ++ [(s.take s.length).drop f] = wordsL s := by
  rw [← h.all]
  congr 1
  have := cut_no (Nat.le_refl _) h.no
  rw [List.take_length] at this ⊢
  rw [wordsL_one _ this]
theorem WordsAt.on {s : List UInt8} {out : List (List UInt8)} {f i : Nat} (h : WordsAt s out f i) (hc : s.getD i 0 ≠ 32) : WordsAt s out f (i + 1) :=
  ⟨by have := h.le; omega, fun j h1 h2 => by
    by_cases e : j = i
    · subst e; exact hc
    · exact h.no j h1 (by omega), h.all, h.few⟩

/-- The words as values. -/
def wvs (ws : List (List UInt8)) : List Value := ws.map bs
theorem wvs_snoc (ws : List (List UInt8)) (l : List UInt8) : wvs (ws ++ [l]) = wvs ws ++ [.string ⟨l.toArray⟩] := by simp [wvs, bs]


set_option maxHeartbeats 1000000 in
theorem rWords (s : List UInt8) (hl : s.length < 100000) (w : World) :
    Calls Tryz.prog 101 #[bs s] w fun e w' => ∃ v, e = .returned v ∧ Vls 9 w' v (wvs (wordsL s)) ∧ Below w.heap.size w w' := by
  unfold bs
  go_enter Tryz.func101, Tryz.ntmps101
  go_wp2
  go_loopw [3, 4, 5] (fun o f i x => ∃ (out : List (List UInt8)) (fn n : Nat), i = .int .i64 n ∧ f = .int .i64 fn ∧ Vls 9 x o (wvs out) ∧ Below w.heap.size w x ∧ (∀ g, o.ownBlock = some g → w.heap.size ≤ g) ∧ n ≤ s.length + 1 ∧ ((n ≤ s.length ∧ WordsAt s out fn n) ∨ (n = s.length + 1 ∧ out = wordsL s))) (fun _ _ i _ => s.length + 1 - (intOf i).toNat)
  case atStart => exact ⟨[], 0, 0, rfl, rfl, Vls.nil _ _, Below.refl _ _, (fun g e => by cases e), by omega, .inl ⟨by omega, ⟨Nat.le_refl _, fun j h1 h2 => by omega, rfl, Nat.le_refl _⟩⟩⟩
  case round =>
    obtain ⟨out, fn, n, rfl, rfl, hV, hb, hown, hn, hW⟩ := hrel
    rcases hW with ⟨hle, hW⟩ | ⟨rfl, rfl⟩
    · have hfew := hW.few
      have hfl := hW.le
      have hvl : (wvs out).length = out.length := by simp [wvs]
      by_cases hend : n = s.length
      · subst hend
        have hcut := run_cutS s fn s.length hfl (Nat.le_refl _)
        have hlast := hW.last
        generalize (s.take s.length).drop fn = wd at *
        have HL := Lib.hid hlast
        clear hlast
        have hle2 : (s.length : Int) ≤ (s.length : Int) := by omega
        go_wp2_with (at_builtin; refine wpVlsApp (by rfl) _ _ 144 (by rfl) (.string ⟨#[]⟩) 16 Tryz.underlying144 (by kernel_rfl) rfl (by decide) hV (by rfl) (.string ⟨wd.toArray⟩) rfl (by rfl) (by omega) ?_; intro v' x' hV' hg hloc)
        have hb2 : Below w.heap.size w x' := hb.grown hg hb.size hown
        have hown2 : ∀ g, v'.ownBlock = some g → w.heap.size ≤ g := by
          intro g e
          rcases hloc with h | h
          · exact hown g (h ▸ e)
          · rw [h] at e; injection e with e; have := hb.size; omega
        go_roundw
        case rel => exact ⟨out ++ [wd], s.length + 1, s.length + 1, by go_num, by go_num, by rw [wvs_snoc]; exact hV', hb2, hown2, by omega, .inr ⟨rfl, HL.out⟩⟩
        case measure => (simp [intOf] <;> omega)
      · have hlt : n < s.length := by omega
        have hidx := run_ltr s n hlt
        have dne : ((n : Int) == (s.length : Int)) = false := by simp; omega
        have dle : (n : Int) ≤ (s.length : Int) := by omega
        by_cases hc : s.getD n 0 = 32
        · have hW2 := hW.blank hlt hc
          have hcut := run_cutS s fn n hfl hle
          rw [hc] at hidx
          have e32 : (((32 : UInt8).toNat : Nat) : Int) = 32 := rfl
          rw [e32] at hidx
          clear e32 hc
          generalize (s.take n).drop fn = wd at *
          go_wp2_with (at_builtin; refine wpVlsApp (by rfl) _ _ 144 (by rfl) (.string ⟨#[]⟩) 16 Tryz.underlying144 (by kernel_rfl) rfl (by decide) hV (by rfl) (.string ⟨wd.toArray⟩) rfl (by rfl) (by omega) ?_; intro v' x' hV' hg hloc)
          have hb2 : Below w.heap.size w x' := hb.grown hg hb.size hown
          have hown2 : ∀ g, v'.ownBlock = some g → w.heap.size ≤ g := by
            intro g e
            rcases hloc with h | h
            · exact hown g (h ▸ e)
            · rw [h] at e; injection e with e; have := hb.size; omega
          go_roundw
          case rel => exact ⟨out ++ [wd], n + 1, n + 1, by go_num, by go_num, by rw [wvs_snoc]; exact hV', hb2, hown2, by omega, .inl ⟨by omega, hW2⟩⟩
          case measure => (simp [intOf] <;> omega)
        · have hW2 := hW.on hc
          have dc : ((((s.getD n 0).toNat : Nat) : Int) == 32) = false := by
            have h : (s.getD n 0).toNat ≠ 32 := fun e => hc (UInt8.toNat_inj.1 e)
            generalize (s.getD n 0).toNat = c at *
            simp; omega
          generalize (s.getD n 0).toNat = c at *
          clear hc
          go_wp2
          go_roundw
          case rel => exact ⟨out, fn, n + 1, by go_num, rfl, hV, hb, hown, by omega, .inl ⟨by omega, hW2⟩⟩
          case measure => (simp [intOf] <;> omega)
    · go_wp2
      go_ret
      exact ⟨_, rfl, hV, hb⟩
end Go.Proofs.YthdgehcghklflaaGreatDoor

/- Programs: a list of instructions and two places; their cells. -/
namespace Go.Proofs.YthdgehcghklflaaGreatDoor
open Go.ChangeShapes Go.WideShapes Go.ChangeAt Go.RowKit
set_option linter.unusedVariables false

/-- A program. -/
structure Prg where
  l : List Ins
  lo : Int
  un : Int
def Prg.zero : Prg := ⟨[], 0, 0⟩

/-- May a program be? -/
def prgB (c : Prg) : Bool := decide (1 ≤ c.l.length) && (decide (c.l.length ≤ 64) && (decide (0 ≤ c.lo) && (decide (0 ≤ c.un) && (decide (c.lo < c.l.length) && (decide (c.un < c.l.length) && c.l.all fun i => rightB i c.l.length)))))

/-- An instruction's cells; a program's. -/
def insC (i : Ins) : List Value := [.int .i64 i.op, .int .i64 i.d, .int .i64 i.s, .int .i64 i.t, .int .i64 i.u, .int .i64 i.a, .int .u32 i.k, .int .i64 i.pl]
theorem insC_len (i : Ins) : (insC i).length = 8 := rfl
def progC (l : List Ins) : List Value := l.flatMap insC
theorem progC_snoc (l : List Ins) (i : Ins) : progC (l ++ [i]) = progC l ++ insC i := by simp [progC]
theorem insC_one (i : Ins) : ∀ u ∈ insC i, u.oneCell' = true := by
  intro u hu
  simp only [insC, List.mem_cons, List.not_mem_nil, or_false] at hu
  rcases hu with rfl | rfl | rfl | rfl | rfl | rfl | rfl | rfl <;> rfl
theorem insInfo : (Tryz.prog.info? 119).map (fun i => (i.zero, i.size, i.bytes)) = some (some (.agg #[.int .i64 0, .int .i64 0, .int .i64 0, .int .i64 0, .int .i64 0, .int .i64 0, .int .u32 0, .int .i64 0]), 8, 64) := by kernel_rfl

/-- Element k of lists laid one behind the other, each as long. -/
theorem flat_at {α : Type} (f : α → List Value) (n : Nat) (hf : ∀ x, (f x).length = n) : ∀ (l : List α) (k j : Nat) (x : α), l[k]? = some x → j < n → (l.flatMap f)[k * n + j]? = (f x)[j]?
  | [], k, j, x, h, _ => by simp at h
  | y :: l, 0, j, x, h, hj => by
    simp at h
    subst h
    simp [List.getElem?_append, hf, hj]
  | y :: l, k + 1, j, x, h, hj => by
    have ih := flat_at f n hf l k j x (by simpa using h) hj
    rw [← ih]
    have e : (k + 1) * n + j = n + (k * n + j) := by rw [Nat.add_mul]; omega
    rw [e, List.flatMap_cons, List.getElem?_append_right (by rw [hf]; omega), hf]
    congr 1
    omega
theorem progC_at {l : List Ins} {k : Nat} {i : Ins} (h : l[k]? = some i) {j : Nat} (hj : j < 8) : (progC l)[k * 8 + j]? = (insC i)[j]? := flat_at insC 8 insC_len l k j i h hj

/-- The value v is a program; its instructions lie in a row of their own, at base or beyond. -/
def Pg (w : World) (base : Nat) (v : Value) (c : Prg) : Prop := ∃ sl, v = .agg #[sl, .int .i64 c.lo, .int .i64 c.un] ∧ w.ownsRow base 119 8 sl c.l.length (progC c.l)
end Go.Proofs.YthdgehcghklflaaGreatDoor

/- inst.Right. -/
namespace Go.Proofs.YthdgehcghklflaaGreatDoor
open Go.ChangeShapes Go.WideShapes Go.ChangeAt Go.RowKit
set_option linter.unusedVariables false

theorem run_eqI (i j : Ins) (w : World) : (binOp .eql 119 (iv i) (iv j)).run Tryz.prog w = .ok (.bool (eqI i j)) w := by
  unfold iv
  have hu := Tryz.underlying119
  go_simp
  unfold eqI
  repeat' split
  all_goals simp [*]

/-- Block g is the instruction i. -/
def Ib (w : World) (g : Nat) (i : Ins) : Prop := Bk w g 119 #[.int .i64 i.op, .int .i64 i.d, .int .i64 i.s, .int .i64 i.t, .int .i64 i.u, .int .i64 i.a, .int .u32 i.k, .int .i64 i.pl]
theorem Ib.cells {w : World} {g : Nat} {i : Ins} (h : Ib w g i) :
    w.cell? ⟨g, 0, none⟩ = some (.int .i64 i.op) ∧ w.cell? ⟨g, 1, none⟩ = some (.int .i64 i.d) ∧ w.cell? ⟨g, 2, none⟩ = some (.int .i64 i.s) ∧ w.cell? ⟨g, 3, none⟩ = some (.int .i64 i.t) ∧
    w.cell? ⟨g, 4, none⟩ = some (.int .i64 i.u) ∧ w.cell? ⟨g, 5, none⟩ = some (.int .i64 i.a) ∧ w.cell? ⟨g, 6, none⟩ = some (.int .u32 i.k) ∧ w.cell? ⟨g, 7, none⟩ = some (.int .i64 i.pl) :=
  ⟨Bk.cell h 0, Bk.cell h 1, Bk.cell h 2, Bk.cell h 3, Bk.cell h 4, Bk.cell h 5, Bk.cell h 6, Bk.cell h 7⟩
theorem Ib.below {w w' : World} {g : Nat} {i : Ins} (h : Ib w g i) (hb : Below w.heap.size w w') : Ib w' g i := (hb.block g (Bk.lt h)).trans h

theorem Ib.grw {w : World} {b : Nat} {i : Ins} (h : Ib w b i) :
    (∀ g : Grw w, g.x.cell? ⟨b, 0, none⟩ = some (.int .i64 i.op)) ∧ (∀ g : Grw w, g.x.cell? ⟨b, 1, none⟩ = some (.int .i64 i.d)) ∧ (∀ g : Grw w, g.x.cell? ⟨b, 2, none⟩ = some (.int .i64 i.s)) ∧ (∀ g : Grw w, g.x.cell? ⟨b, 3, none⟩ = some (.int .i64 i.t)) ∧
    (∀ g : Grw w, g.x.cell? ⟨b, 4, none⟩ = some (.int .i64 i.u)) ∧ (∀ g : Grw w, g.x.cell? ⟨b, 5, none⟩ = some (.int .i64 i.a)) ∧ (∀ g : Grw w, g.x.cell? ⟨b, 6, none⟩ = some (.int .u32 i.k)) ∧ (∀ g : Grw w, g.x.cell? ⟨b, 7, none⟩ = some (.int .i64 i.pl)) := by
  obtain ⟨c0, c1, c2, c3, c4, c5, c6, c7⟩ := h.cells
  exact ⟨fun g => g.cell c0, fun g => g.cell c1, fun g => g.cell c2, fun g => g.cell c3, fun g => g.cell c4, fun g => g.cell c5, fun g => g.cell c6, fun g => g.cell c7⟩

theorem Ib.made (w : World) (op d s t u a k pl : Int) : Ib (w.alloc (.cells #[.int .i64 op, .int .i64 d, .int .i64 s, .int .i64 t, .int .i64 u, .int .i64 a, .int .u32 k, .int .i64 pl] 119)) w.heap.size ⟨op, d, s, t, u, a, k, pl⟩ := Bk.made _ _ _
theorem boxed {w x : World} {op d s t u a k pl : Int} (h : Below (w.alloc (.cells #[.int .i64 op, .int .i64 d, .int .i64 s, .int .i64 t, .int .i64 u, .int .i64 a, .int .u32 k, .int .i64 pl] 119)).heap.size (w.alloc (.cells #[.int .i64 op, .int .i64 d, .int .i64 s, .int .i64 t, .int .i64 u, .int .i64 a, .int .u32 k, .int .i64 pl] 119)) x) : Ib x w.heap.size ⟨op, d, s, t, u, a, k, pl⟩ ∧ Below w.heap.size w x :=
  ⟨(Ib.made w op d s t u a k pl).below h, ((Below.refl _ _).alloc (Nat.le_refl _) _).trans (h.mono (by simp))⟩

/-- Block g is stored into, field by field. -/
def put8 (y : World) (g : Nat) (i : Ins) : World := ((((((((y.setCell ⟨g, 0, none⟩ (.int .i64 i.op)).setCell ⟨g, 1, none⟩ (.int .i64 i.d)).setCell ⟨g, 2, none⟩ (.int .i64 i.s)).setCell ⟨g, 3, none⟩ (.int .i64 i.t)).setCell ⟨g, 4, none⟩ (.int .i64 i.u)).setCell ⟨g, 5, none⟩ (.int .i64 i.a)).setCell ⟨g, 6, none⟩ (.int .u32 i.k)).setCell ⟨g, 7, none⟩ (.int .i64 i.pl))
theorem put8_ib {y : World} {g : Nat} {i j : Ins} (h : Ib y g j) : Ib (put8 y g i) g i := by
  have h8 := (((((((Bk.put h 0 (.int .i64 i.op)).put 1 (.int .i64 i.d)).put 2 (.int .i64 i.s)).put 3 (.int .i64 i.t)).put 4 (.int .i64 i.u)).put 5 (.int .i64 i.a)).put 6 (.int .u32 i.k)).put 7 (.int .i64 i.pl)
  unfold put8 Ib
  simpa only [List.setIfInBounds_toArray, List.set_cons_zero, List.set_cons_succ] using h8
theorem put8_off {y : World} {g b : Nat} {i : Ins} {t : TypeId} {cs : Array Value} (h : Bk y b t cs) (hne : b ≠ g) : Bk (put8 y g i) b t cs :=
  (((((((h.off hne _).off hne _).off hne _).off hne _).off hne _).off hne _).off hne _).off hne _
theorem put8_below {B : Nat} {w y : World} {g : Nat} {i : Ins} (h : Below B w y) (hg : B ≤ g) : Below B w (put8 y g i) :=
  (((((((h.setCell hg _).setCell hg _).setCell hg _).setCell hg _).setCell hg _).setCell hg _).setCell hg _).setCell hg _

theorem clr_snoc (i : Ins) (l : List UInt8) (n : Nat) (h : n < l.length) : clr i (l.take (n + 1)) = setI (clr i (l.take n)) (l.getD n 0).toNat 0 := by
  unfold clr
  rw [List.take_succ_eq_append_getElem h, List.foldl_append]
  simp [h]

theorem all_snoc (f : UInt8 → Bool) (l : List UInt8) (n : Nat) (h : n < l.length) : (l.take (n + 1)).all f = ((l.take n).all f && f (l.getD n 0)) := by
  rw [List.take_succ_eq_append_getElem h, List.all_append]
  simp [h]
theorem all_no (f : UInt8 → Bool) (l : List UInt8) (n : Nat) (h : n < l.length) (hf : f (l.getD n 0) = false) : l.all f = false := by
  rw [Bool.eq_false_iff]
  intro ha
  have := List.all_eq_true.1 ha (l.getD n 0) (by simp [h])
  rw [hf] at this
  cases this

/-- The world at the head of a round of Right. -/
structure RightAt (w : World) (i : Ins) (hs : List UInt8) (p : Int) (n : Nat) (x : World) : Prop where
  below : Below w.heap.size w x
  box : Ib x w.heap.size i
  left : Ib x (w.heap.size + 1) (clr i (hs.take n))
  ok : (hs.take n).all (fun c => inB i p c.toNat) = true

set_option maxHeartbeats 1000000 in
theorem cRight (i : Ins) (p : Int) (k0 : 0 ≤ i.k) (k1 : i.k < 4294967296) (w : World) :
    Calls Tryz.prog 70 #[iv i, .int .i64 p] w fun e w' => e = .returned (.bool (rightB i p)) ∧ Below w.heap.size w w' := by
  have hL := hs_ltr i.op
  have h6 := hs_len i.op
  have ER : rightB i p = (!(hsL i.op).isEmpty && ((hsL i.op).all (fun c => inB i p c.toNat) && isZ (clr i (hsL i.op)))) := rfl
  have H0 := Lib.hid (cForm i.op)
  generalize hsL i.op = hs at hL h6 ER H0
  have HL := Lib.hid hL
  have HR := Lib.hid ER
  clear hL ER
  obtain ⟨op, d, s, t, u, a, k, pl⟩ := i
  simp only at k0 k1 H0
  unfold iv
  go_enter Tryz.func70, Tryz.ntmps70
  go_wp2_with fail
  refine (H0.out _).mono ?_
  rintro e w' ⟨rfl, rfl⟩
  unfold bs
  by_cases he : hs = []
  · subst he
    go_wp2
    go_ret
    exact ⟨ret_bool HR.out.symm, (Below.refl _ _).alloc (Nat.le_refl _) _⟩
  have hne : hs.isEmpty = false := by simpa using he
  go_wp2
  go_loopw [24] (fun v x => ∃ n : Nat, n ≤ hs.length ∧ v = .int .i64 n ∧ RightAt w ⟨op, d, s, t, u, a, k, pl⟩ hs p n x) (fun v _ => hs.length - (intOf v).toNat)
  case atStart => 
    refine ⟨0, Nat.zero_le _, rfl, ?_, ?_, ?_, rfl⟩
    · exact (((Below.refl _ _).alloc (Nat.le_refl _) _).alloc (by simp) _)
    · exact (Bk.made _ _ _).alloc _
    · have := Bk.made (w.alloc (.cells #[.int .i64 op, .int .i64 d, .int .i64 s, .int .i64 t, .int .i64 u, .int .i64 a, .int .u32 k, .int .i64 pl] 119)) 119 #[.int .i64 0, .int .i64 d, .int .i64 s, .int .i64 t, .int .i64 u, .int .i64 a, .int .u32 k, .int .i64 pl]
      rw [show (w.alloc (.cells #[.int .i64 op, .int .i64 d, .int .i64 s, .int .i64 t, .int .i64 u, .int .i64 a, .int .u32 k, .int .i64 pl] 119)).heap.size = w.heap.size + 1 by simp] at this
      exact this
  case round =>
    obtain ⟨n, hn, rfl, R⟩ := hrel
    obtain ⟨hb, hI, hZ, hok⟩ := R
    generalize wr = x at *
    have hlt1 : w.heap.size < x.heap.size := Bk.lt hI
    have hlt2 : w.heap.size + 1 < x.heap.size := Bk.lt hZ
    by_cases hlt : n < hs.length
    · have hidx := run_ltr hs n hlt
      have hc : Ltr ((hs.getD n 0).toNat : Int) := HL.out _ (by simp [hlt])
      generalize hcc : ((hs.getD n 0).toNat : Int) = c at hidx hc
      obtain ⟨g0, -⟩ := hI.grw
      have HC := Lib.hid hcc
      clear hcc
      go_wp2_with fail
      refine wp_region_grow (by kernel_rfl) (by kernel_rfl) ?_
      repeat (go_big_quiet_step ((go_at_call 110; exact grw_same (cBounds _ _ _ hc _))))
      refine wpQuiet_nil ?_
      rintro y ⟨⟨_, hy⟩, rfl⟩
      replace hb := hb.trans (hy.mono (Nat.le_of_lt hlt1))
      replace hI := hI.below hy
      replace hZ := hZ.below hy
      replace hlt1 : w.heap.size < y.heap.size := Bk.lt hI
      replace hlt2 : w.heap.size + 1 < y.heap.size := Bk.lt hZ
      clear g0 hy x
      obtain ⟨g0, g1, g2, g3, g4, g5, g6, g7⟩ := hI.grw
      simp only at g0 g1 g2 g3 g4 g5 g6 g7
      go_wp2_with fail
      refine wp_region_grow (by kernel_rfl) (by kernel_rfl) ?_
      repeat (go_big_quiet_step ((go_at_call 111; exact grw_call (cGet ⟨op, d, s, t, u, a, k, pl⟩ _ hc k0 k1 _))))
      refine wpQuiet_nil ?_
      rintro x ⟨⟨_, hx⟩, rfl⟩
      replace hb := hb.trans (hx.mono (Nat.le_of_lt hlt1))
      replace hI := hI.below hx
      replace hZ := hZ.below hx
      replace hlt1 : w.heap.size < x.heap.size := Bk.lt hI
      replace hlt2 : w.heap.size + 1 < x.heap.size := Bk.lt hZ
      clear g0 g1 g2 g3 g4 g5 g6 g7 hx y
      by_cases hlo : getI ⟨op, d, s, t, u, a, k, pl⟩ c < lowI op c
      · go_wp2
        go_ret
        refine ⟨ret_bool ?_, hb⟩
        rw [HR.out, all_no _ _ n hlt (by rw [HC.out]; simp [inB]; intro h; omega)]; simp
      have hlo' : decide (getI ⟨op, d, s, t, u, a, k, pl⟩ c < lowI op c) = false := by simpa using hlo
      by_cases hhi : endI op c p ≤ getI ⟨op, d, s, t, u, a, k, pl⟩ c
      · go_wp2
        go_ret
        refine ⟨ret_bool ?_, hb⟩
        rw [HR.out, all_no _ _ n hlt (by rw [HC.out]; simp [inB]; intro h; omega)]; simp
      have hhi' : decide (getI ⟨op, d, s, t, u, a, k, pl⟩ c ≥ endI op c p) = false := by simpa using hhi
      generalize hZZ : clr ⟨op, d, s, t, u, a, k, pl⟩ (hs.take n) = z at hZ
      have HZ := Lib.hid hZZ
      clear hZZ
      obtain ⟨zop, zd, zs, zt, zu, za, zk, zpl⟩ := z
      obtain ⟨c0, c1, c2, c3, c4, c5, c6, c7⟩ := hZ.cells
      simp only at c0 c1 c2 c3 c4 c5 c6 c7
      go_wp2_with fail
      go_region_law (first | (go_simp; go_at_call 112; refine (cSet ⟨zop, zd, zs, zt, zu, za, zk, zpl⟩ _ 0 hc _).mono ?_; rintro e y ⟨rfl, hy⟩; replace hy := below_of_drew hy; obtain ⟨d0, d1, d2, d3, d4, d5, d6, d7⟩ := (hZ.below hy).cells; have hf := Bk.free (hZ.below hy); generalize hz2 : setI ⟨zop, zd, zs, zt, zu, za, zk, zpl⟩ c 0 = z2; have HZ2 := Lib.hid hz2; clear hz2; obtain ⟨yop, yd, ys, yt, yu, ya, yk, ypl⟩ := z2; unfold iv))
      all_goals
        generalize hv : ((((((((y.setCell ⟨w.heap.size + 1, 0, none⟩ (.int .i64 yop)).setCell ⟨w.heap.size + 1, 1, none⟩ (.int .i64 yd)).setCell ⟨w.heap.size + 1, 2, none⟩ (.int .i64 ys)).setCell ⟨w.heap.size + 1, 3, none⟩ (.int .i64 yt)).setCell ⟨w.heap.size + 1, 4, none⟩ (.int .i64 yu)).setCell ⟨w.heap.size + 1, 5, none⟩ (.int .i64 ya)).setCell ⟨w.heap.size + 1, 6, none⟩ (.int .u32 yk)).setCell ⟨w.heap.size + 1, 7, none⟩ (.int .i64 ypl)) = v
        have hv2 : put8 y (w.heap.size + 1) ⟨yop, yd, ys, yt, yu, ya, yk, ypl⟩ = v := hv
        clear hv
        have hA := put8_ib (i := ⟨yop, yd, ys, yt, yu, ya, yk, ypl⟩) (hZ.below hy)
        have hB := put8_off (i := ⟨yop, yd, ys, yt, yu, ya, yk, ypl⟩) (hI.below hy) (show w.heap.size ≠ w.heap.size + 1 by omega)
        have hC := put8_below (i := ⟨yop, yd, ys, yt, yu, ya, yk, ypl⟩) (hb.trans (hy.mono (Nat.le_of_lt hlt1))) (show w.heap.size ≤ w.heap.size + 1 by omega)
        rw [hv2] at hA hB hC
        clear hv2 d0 d1 d2 d3 d4 d5 d6 d7 hf c0 c1 c2 c3 c4 c5 c6 c7 hidx
        have hn1 : (n : Int) + 1 ≤ 6 := by omega
        go_wp2
        go_roundw
        case rel =>
          refine ⟨n + 1, by omega, by go_num, hC, hB, ?_, ?_⟩
          · rw [clr_snoc _ _ _ hlt, HZ.out, HC.out, HZ2.out]; exact hA
          · rw [all_snoc _ _ _ hlt, HC.out, hok]; simp [inB]; omega
        case measure => simp [intOf]; omega
    · obtain rfl : n = hs.length := by omega
      generalize hZZ : clr ⟨op, d, s, t, u, a, k, pl⟩ (hs.take hs.length) = z at hZ
      obtain ⟨zop, zd, zs, zt, zu, za, zk, zpl⟩ := z
      obtain ⟨c0, c1, c2, c3, c4, c5, c6, c7⟩ := hZ.cells
      simp only at c0 c1 c2 c3 c4 c5 c6 c7
      rw [List.take_length] at hZZ hok
      have HZ := Lib.hid hZZ
      have HO := Lib.hid hok
      clear hZZ hok
      have hq := run_eqI ⟨zop, zd, zs, zt, zu, za, zk, zpl⟩ Ins.zero
      generalize hB : eqI ⟨zop, zd, zs, zt, zu, za, zk, zpl⟩ Ins.zero = B at hq
      have HB := Lib.hid hB
      clear hB
      unfold iv Ins.zero at hq
      simp only at hq
      go_wp2
      go_ret
      refine ⟨ret_bool ?_, hb⟩
      rw [HR.out, HO.out, HZ.out, isZ_eq, HB.out, hne]; rfl
end Go.Proofs.YthdgehcghklflaaGreatDoor

/- Texts, their words, their digits. No walk stands here. -/
namespace Go.Proofs.YthdgehcghklflaaGreatDoor
set_option linter.unusedVariables false

def Nl (s : List UInt8) : Prop := ∀ c ∈ s, c ≠ 10
theorem Nl.app {a b : List UInt8} (ha : Nl a) (hb : Nl b) : Nl (a ++ b) := fun c hc => by
  rcases List.mem_append.1 hc with h | h
  · exact ha c h
  · exact hb c h
/-- No blank. -/
def Bf (l : List UInt8) : Prop := ∀ c ∈ l, c ≠ 32

theorem blank_or : ∀ s : List UInt8, Bf s ∨ ∃ t r, Bf t ∧ s = t ++ 32 :: r
  | [] => .inl (by intro c h; cases h)
  | c :: s => by
    by_cases h : c = 32
    · exact .inr ⟨[], s, (by intro c h; cases h), (by rw [h]; rfl)⟩
    · rcases blank_or s with h1 | ⟨t, r, h1, rfl⟩
      · exact .inl (by intro d hd; rcases List.mem_cons.1 hd with rfl | hd; exact h; exact h1 d hd)
      · exact .inr ⟨c :: t, r, (by intro d hd; rcases List.mem_cons.1 hd with rfl | hd; exact h; exact h1 d hd), rfl⟩
theorem index_bf : ∀ t : List UInt8, Bf t → Lib.index t [32] = -1
  | [], _ => by simp [Lib.index]
  | c :: t, h => by
    have h1 := index_bf t fun d hd => h d (List.mem_cons_of_mem _ hd)
    have h2 : c ≠ 32 := h c List.mem_cons_self
    unfold Lib.index
    rw [if_neg (by simp [List.isPrefixOf]; exact fun e => h2 e.symm), h1]
    rfl
theorem index_at : ∀ (t r : List UInt8), Bf t → Lib.index (t ++ 32 :: r) [32] = t.length
  | [], r, _ => by simp [Lib.index, List.isPrefixOf]
  | c :: t, r, h => by
    have h1 := index_at t r fun d hd => h d (List.mem_cons_of_mem _ hd)
    have h2 : c ≠ 32 := h c List.mem_cons_self
    show Lib.index (c :: (t ++ 32 :: r)) [32] = _
    unfold Lib.index
    rw [if_neg (by simp [List.isPrefixOf]; exact fun e => h2 e.symm), h1, if_neg (by simp <;> omega)]
    simp
/-- Words, with a blank ahead of each but the first. -/
def joinL (w0 : List UInt8) (ws : List (List UInt8)) : List UInt8 := w0 ++ ws.flatMap fun w => 32 :: w
theorem words_join : ∀ (ws : List (List UInt8)) (w0 : List UInt8), Bf w0 → (∀ w ∈ ws, Bf w) → wordsL (joinL w0 ws) = w0 :: ws
  | [], w0, h, _ => by unfold joinL; simp; exact wordsL_one w0 h
  | w :: ws, w0, h, hs => by
    have ih := words_join ws w (hs w List.mem_cons_self) fun v hv => hs v (List.mem_cons_of_mem _ hv)
    unfold joinL at *
    simp only [List.flatMap_cons, List.cons_append]
    rw [wordsL_more w0 _ h, ih]

theorem dec_digit : ∀ (n : Nat), ∀ c ∈ Lib.decDigits n, 48 ≤ c.toNat ∧ c.toNat ≤ 57 := by
  intro n
  induction n using Nat.strongRecOn with
  | _ n ih =>
    intro c hc
    rw [Lib.decDigits] at hc
    by_cases h : n < 10
    · rw [dif_pos h] at hc
      obtain rfl := List.mem_singleton.1 hc
      rw [UInt8.toNat_ofNat', Nat.mod_eq_of_lt (by omega)]
      omega
    · rw [dif_neg h] at hc
      rcases List.mem_append.1 hc with hc | hc
      · exact ih (n / 10) (by omega) c hc
      · obtain rfl := List.mem_singleton.1 hc
        rw [UInt8.toNat_ofNat', Nat.mod_eq_of_lt (by omega)]
        omega
theorem dec_bf (n : Nat) : Bf (Lib.decDigits n) := by
  intro c hc e
  have := dec_digit n c hc
  rw [e] at this
  exact absurd this (by decide)
theorem dec_cons (n : Nat) : ∃ c r, Lib.decDigits n = c :: r ∧ 48 ≤ c.toNat ∧ c.toNat ≤ 57 ∧ (10 ≤ n → 49 ≤ c.toNat) := by
  induction n using Nat.strongRecOn with
  | _ n ih =>
    rw [Lib.decDigits]
    by_cases h : n < 10
    · rw [dif_pos h]
      refine ⟨_, [], rfl, ?_⟩
      rw [UInt8.toNat_ofNat', Nat.mod_eq_of_lt (by omega)]
      omega
    · rw [dif_neg h]
      obtain ⟨c, r, e, h1, h2, h3⟩ := ih (n / 10) (by omega)
      rw [e]
      refine ⟨c, _, rfl, h1, h2, fun _ => ?_⟩
      by_cases h9 : 10 ≤ n / 10
      · exact h3 h9
      · rw [Lib.decDigits, dif_pos (by omega)] at e
        injection e with e1 _
        rw [← e1, UInt8.toNat_ofNat', Nat.mod_eq_of_lt (by omega)]
        omega
theorem parse_app : ∀ (a b : List UInt8) (acc u : Nat), Lib.parseUint10 acc a = .ok u → Lib.parseUint10 acc (a ++ b) = Lib.parseUint10 u b
  | [], b, acc, u, h => by simp [Lib.parseUint10] at h; subst h; rfl
  | c :: a, b, acc, u, h => by
    simp only [Lib.parseUint10, List.cons_append] at h ⊢
    split at h
    · split at h
      · cases h
      · split at h
        · cases h
        · rename_i h1 h2 h3
          rw [if_pos h1, if_neg h2, if_neg h3]
          exact parse_app a b _ u h
    · cases h
theorem parse_dec : ∀ (n : Nat), n < 18446744073709551616 → Lib.parseUint10 0 (Lib.decDigits n) = .ok n := by
  intro n
  induction n using Nat.strongRecOn with
  | _ n ih =>
    intro hn
    rw [Lib.decDigits]
    by_cases h : n < 10
    · rw [dif_pos h]
      have e : (UInt8.ofNat (48 + n)).toNat = 48 + n := by rw [UInt8.toNat_ofNat', Nat.mod_eq_of_lt (by omega)]
      simp only [Lib.parseUint10, e]
      rw [if_pos (by omega), if_neg (by omega), if_neg (by omega)]
      congr 1
      omega
    · rw [dif_neg h, parse_app _ _ _ _ (ih (n / 10) (by omega) (by omega))]
      have e : (UInt8.ofNat (48 + n % 10)).toNat = 48 + n % 10 := by rw [UInt8.toNat_ofNat', Nat.mod_eq_of_lt (by omega)]
      simp only [Lib.parseUint10, e]
      rw [if_pos (by omega), if_neg (by omega), if_neg (by omega)]
      congr 1
      omega
theorem atoi_dec (n : Nat) (h : n < 9223372036854775808) : Lib.atoiAll (Lib.decDigits n) = .ok n := by
  obtain ⟨c, r, e, h1, h2, -⟩ := dec_cons n
  have hp := parse_dec n (by omega)
  rw [e] at hp ⊢
  unfold Lib.atoiAll Lib.parseMag
  simp only
  rw [if_neg (show ¬ (c.toNat = 43 ∨ c.toNat = 45) by omega), if_neg (by simp), hp]
  simp only
  rw [if_neg (by omega), if_neg (by omega), if_neg (by omega)]

end Go.Proofs.YthdgehcghklflaaGreatDoor

/- The document's instructions: Ref, Name, reg. -/
namespace Go.Proofs.YthdgehcghklflaaGreatDoor
open Go.ChangeShapes Go.WideShapes Go.ChangeAt Go.RowKit
set_option linter.unusedVariables false

theorem run_eqJ (i j : Ins) (w : World) : (binOp .eql 125 (iv i) (iv j)).run Tryz.prog w = .ok (.bool (eqI i j)) w := by
  unfold iv
  have hu := Tryz.underlying125
  go_simp
  unfold eqI
  repeat' split
  all_goals simp [*]

/-- Block g is the instruction i. -/
def Jb (w : World) (g : Nat) (i : Ins) : Prop := Bk w g 125 #[.int .i64 i.op, .int .i64 i.d, .int .i64 i.s, .int .i64 i.t, .int .i64 i.u, .int .i64 i.a, .int .u32 i.k, .int .i64 i.pl]
theorem Jb.cells {w : World} {g : Nat} {i : Ins} (h : Jb w g i) :
    w.cell? ⟨g, 0, none⟩ = some (.int .i64 i.op) ∧ w.cell? ⟨g, 1, none⟩ = some (.int .i64 i.d) ∧ w.cell? ⟨g, 2, none⟩ = some (.int .i64 i.s) ∧ w.cell? ⟨g, 3, none⟩ = some (.int .i64 i.t) ∧
    w.cell? ⟨g, 4, none⟩ = some (.int .i64 i.u) ∧ w.cell? ⟨g, 5, none⟩ = some (.int .i64 i.a) ∧ w.cell? ⟨g, 6, none⟩ = some (.int .u32 i.k) ∧ w.cell? ⟨g, 7, none⟩ = some (.int .i64 i.pl) :=
  ⟨Bk.cell h 0, Bk.cell h 1, Bk.cell h 2, Bk.cell h 3, Bk.cell h 4, Bk.cell h 5, Bk.cell h 6, Bk.cell h 7⟩
theorem Jb.below {w w' : World} {g : Nat} {i : Ins} (h : Jb w g i) (hb : Below w.heap.size w w') : Jb w' g i := (hb.block g (Bk.lt h)).trans h

theorem Jb.grw {w : World} {b : Nat} {i : Ins} (h : Jb w b i) :
    (∀ g : Grw w, g.x.cell? ⟨b, 0, none⟩ = some (.int .i64 i.op)) ∧ (∀ g : Grw w, g.x.cell? ⟨b, 1, none⟩ = some (.int .i64 i.d)) ∧ (∀ g : Grw w, g.x.cell? ⟨b, 2, none⟩ = some (.int .i64 i.s)) ∧ (∀ g : Grw w, g.x.cell? ⟨b, 3, none⟩ = some (.int .i64 i.t)) ∧
    (∀ g : Grw w, g.x.cell? ⟨b, 4, none⟩ = some (.int .i64 i.u)) ∧ (∀ g : Grw w, g.x.cell? ⟨b, 5, none⟩ = some (.int .i64 i.a)) ∧ (∀ g : Grw w, g.x.cell? ⟨b, 6, none⟩ = some (.int .u32 i.k)) ∧ (∀ g : Grw w, g.x.cell? ⟨b, 7, none⟩ = some (.int .i64 i.pl)) := by
  obtain ⟨c0, c1, c2, c3, c4, c5, c6, c7⟩ := h.cells
  exact ⟨fun g => g.cell c0, fun g => g.cell c1, fun g => g.cell c2, fun g => g.cell c3, fun g => g.cell c4, fun g => g.cell c5, fun g => g.cell c6, fun g => g.cell c7⟩

theorem Jb.made (w : World) (op d s t u a k pl : Int) : Jb (w.alloc (.cells #[.int .i64 op, .int .i64 d, .int .i64 s, .int .i64 t, .int .i64 u, .int .i64 a, .int .u32 k, .int .i64 pl] 125)) w.heap.size ⟨op, d, s, t, u, a, k, pl⟩ := Bk.made _ _ _
theorem boxedJ {w x : World} {op d s t u a k pl : Int} (h : Below (w.alloc (.cells #[.int .i64 op, .int .i64 d, .int .i64 s, .int .i64 t, .int .i64 u, .int .i64 a, .int .u32 k, .int .i64 pl] 125)).heap.size (w.alloc (.cells #[.int .i64 op, .int .i64 d, .int .i64 s, .int .i64 t, .int .i64 u, .int .i64 a, .int .u32 k, .int .i64 pl] 125)) x) : Jb x w.heap.size ⟨op, d, s, t, u, a, k, pl⟩ ∧ Below w.heap.size w x :=
  ⟨(Jb.made w op d s t u a k pl).below h, ((Below.refl _ _).alloc (Nat.le_refl _) _).trans (h.mono (by simp))⟩


theorem put8_jb {y : World} {g : Nat} {i j : Ins} (h : Jb y g j) : Jb (put8 y g i) g i := by
  have h8 := (((((((Bk.put h 0 (.int .i64 i.op)).put 1 (.int .i64 i.d)).put 2 (.int .i64 i.s)).put 3 (.int .i64 i.t)).put 4 (.int .i64 i.u)).put 5 (.int .i64 i.a)).put 6 (.int .u32 i.k)).put 7 (.int .i64 i.pl)
  unfold put8 Jb
  simpa only [List.setIfInBounds_toArray, List.set_cons_zero, List.set_cons_succ] using h8

theorem rRef (i : Ins) (w : World) :
    Calls Tryz.prog 65 #[iv i] w fun e w' => e = .returned (iv i) ∧ Below w.heap.size w w' := by
  obtain ⟨op, d, s, t, u, a, k, pl⟩ := i
  unfold iv
  go_enter Tryz.func65, Tryz.ntmps65
  go_wp2
  refine bodyPost_ret (v := .agg #[.int .i64 op, .int .i64 d, .int .i64 s, .int .i64 t, .int .i64 u, .int .i64 a, .int .u32 k, .int .i64 pl]) (by simp [results, Tryz.results65, go_sem]) rfl ⟨rfl, ?_⟩
  exact ((Below.refl _ _).alloc (Nat.le_refl _) _).alloc (by simp) _

theorem rRegYes (n : Int) (h0 : 0 ≤ n) (h1 : n ≤ 7) (w : World) : Calls Tryz.prog 105 #[.int .i64 n] w fun e w' => e = .returned (.bool true) ∧ w = w' := by
  go_enter Tryz.func105, Tryz.ntmps105
  go_wp2
  go_ret
  exact ⟨rfl, rfl⟩
theorem rRegNo (n : Int) (h : n < 0 ∨ 7 < n) (w : World) : Calls Tryz.prog 105 #[.int .i64 n] w fun e w' => e = .returned (.bool false) ∧ w = w' := by
  rcases h with h | h
  · have h2 : decide (n ≥ 0) = false := by simp; omega
    go_enter Tryz.func105, Tryz.ntmps105
    go_wp2
    go_ret
    exact ⟨rfl, rfl⟩
  · have h2 : decide (n ≤ 7) = false := by simp; omega
    have h3 : 0 ≤ n := by omega
    go_enter Tryz.func105, Tryz.ntmps105
    go_wp2
    go_ret
    exact ⟨rfl, rfl⟩


/-- The names, as the document lays them. -/
def namesA : Array Value := #[.string ⟨#[]⟩, .string ⟨#[99, 111, 110, 115, 116]⟩, .string ⟨#[109, 111, 118, 101]⟩, .string ⟨#[97, 100, 100, 107]⟩, .string ⟨#[97, 110, 100, 107]⟩, .string ⟨#[115, 104, 108]⟩, .string ⟨#[115, 104, 114]⟩, .string ⟨#[111, 114]⟩, .string ⟨#[98, 101, 113]⟩, .string ⟨#[98, 110, 101]⟩, .string ⟨#[106, 117, 109, 112]⟩, .string ⟨#[115, 101, 108, 102]⟩, .string ⟨#[109, 97, 114, 107]⟩, .string ⟨#[100, 111, 110, 101]⟩, .string ⟨#[]⟩, .string ⟨#[]⟩, .string ⟨#[108, 111, 97, 100]⟩, .string ⟨#[115, 116, 111, 114, 101]⟩, .string ⟨#[115, 119, 97, 112]⟩, .string ⟨#[99, 97, 115]⟩, .string ⟨#[102, 97, 100, 100]⟩, .string ⟨#[97, 119, 97, 105, 116]⟩, .string ⟨#[116, 97, 107, 101]⟩, .string ⟨#[102, 114, 101, 101]⟩]
theorem namesA_at : ∀ n : Nat, 1 ≤ n → n ≤ 23 → namesA[n]? = some (.string ⟨(nmL n).toArray⟩) := by
  intro n h1 h2
  have hn : n = 1 ∨ n = 2 ∨ n = 3 ∨ n = 4 ∨ n = 5 ∨ n = 6 ∨ n = 7 ∨ n = 8 ∨ n = 9 ∨ n = 10 ∨ n = 11 ∨ n = 12 ∨ n = 13 ∨ n = 14 ∨ n = 15 ∨ n = 16 ∨ n = 17 ∨ n = 18 ∨ n = 19 ∨ n = 20 ∨ n = 21 ∨ n = 22 ∨ n = 23 := by omega
  rcases hn with rfl | rfl | rfl | rfl | rfl | rfl | rfl | rfl | rfl | rfl | rfl | rfl | rfl | rfl | rfl | rfl | rfl | rfl | rfl | rfl | rfl | rfl | rfl <;> rfl


set_option maxRecDepth 100000 in
theorem rName (op : Int) (w : World) : Calls Tryz.prog 104 #[.int .i64 op] w fun e w' => e = .returned (bs (nmL op)) ∧ Below w.heap.size w w' := by
  by_cases h : op < 1 ∨ 23 < op
  · have E := Lib.hid (show nmL op = [] from (hs_none (by omega)).2)
    generalize nmL op = nm at *
    rcases h with h | h
    · go_enter Tryz.func104, Tryz.ntmps104
      go_wp2_with (first | (refine wpList_build_to rfl 249 _ rfl namesA (by kernel_rfl) ?_) | (refine wpList_store_new rfl 249 _ _ rfl _ namesA rfl rfl (by kernel_rfl) (by kernel_rfl) (by kernel_rfl) ?_))
      go_ret
      exact ⟨by rw [E.out]; rfl, (Below.refl _ _).alloc (Nat.le_refl _) _⟩
    · have h2 : decide (op < 1) = false := by simp; omega
      go_enter Tryz.func104, Tryz.ntmps104
      go_wp2_with (first | (refine wpList_build_to rfl 249 _ rfl namesA (by kernel_rfl) ?_) | (refine wpList_store_new rfl 249 _ _ rfl _ namesA rfl rfl (by kernel_rfl) (by kernel_rfl) (by kernel_rfl) ?_))
      go_ret
      exact ⟨by rw [E.out]; rfl, (Below.refl _ _).alloc (Nat.le_refl _) _⟩
  · obtain ⟨n, hn⟩ : ∃ n : Nat, op = n := ⟨op.toNat, by omega⟩
    subst hn
    have h1 : 1 ≤ n := by omega
    have h23 : n ≤ 23 := by omega
    have hc : (w.alloc (.cells namesA 249)).cell? ⟨w.heap.size, n, none⟩ = some (.string ⟨(nmL n).toArray⟩) := by
      rw [cell_of_row _ _ _ _ _ _ (heap_alloc_new w _)]
      exact namesA_at n h1 h23
    generalize nmL n = nm at *
    have d1 : decide ((n : Int) < 1) = false := by simp; omega
    have d2 : decide ((n : Int) > 23) = false := by simp; omega
    have d3 : (n : Int) < 24 := by omega
    clear h
    go_enter Tryz.func104, Tryz.ntmps104
    go_wp2_with (first | (refine wpList_build_to rfl 249 _ rfl namesA (by kernel_rfl) ?_) | (refine wpList_store_new rfl 249 _ _ rfl _ namesA rfl rfl (by kernel_rfl) (by kernel_rfl) (by kernel_rfl) ?_))
    go_ret
    exact ⟨rfl, (Below.refl _ _).alloc (Nat.le_refl _) _⟩

/-- Each register, and the area, is one. -/
structure Regs (i : Ins) : Prop where
  d : 0 ≤ i.d ∧ i.d ≤ 7
  s : 0 ≤ i.s ∧ i.s ≤ 7
  t : 0 ≤ i.t ∧ i.t ≤ 7
  u : 0 ≤ i.u ∧ i.u ≤ 7
  a : 0 ≤ i.a ∧ i.a ≤ 7
end Go.Proofs.YthdgehcghklflaaGreatDoor

/- The ticket lock's text and program. -/
namespace Go.Proofs.YthdgehcghklflaaGreatDoor
set_option linter.unusedVariables false

/-- Its text. -/
def tkText : List UInt8 := [108, 111, 99, 107, 58, 10, 102, 97, 100, 100, 32, 114, 49, 32, 48, 32, 114, 48, 32, 49, 10, 109, 97, 114, 107, 32, 49, 10, 97, 119, 97, 105, 116, 32, 114, 50, 32, 49, 32, 114, 48, 32, 101, 113, 32, 114, 49, 10, 109, 97, 114, 107, 32, 50, 10, 100, 111, 110, 101, 32, 49, 10, 117, 110, 108, 111, 99, 107, 58, 10, 97, 100, 100, 107, 32, 114, 49, 32, 114, 49, 32, 49, 10, 115, 116, 111, 114, 101, 32, 49, 32, 114, 48, 32, 114, 49, 10, 109, 97, 114, 107, 32, 52, 10, 100, 111, 110, 101, 32, 50, 10]
def tkP : Prg := ⟨tkL, 0, 5⟩
theorem tk_small : tkText.length < 80000 := by decide
/-- The last registers. -/
def tkR (n : Nat) : List Int := List.replicate n 0
end Go.Proofs.YthdgehcghklflaaGreatDoor

/- InstC, InstD, InstE, InstF, InstG, one behind the other. -/
/- inst.part. -/
namespace Go.Proofs.YthdgehcghklflaaGreatDoor
open Go.ChangeShapes Go.WideShapes Go.ChangeAt Go.RowKit
set_option linter.unusedVariables false

/-- What partOfK answers. -/
def kL (i : Ins) (l : List UInt8) : List UInt8 := if i.op = 21 then (if i.k = 0 then [32, 101, 113] else [32, 110, 101]) else 32 :: l
def placeS (i : Ins) (l : List UInt8) : List UInt8 := if i.op = 21 then (if i.pl = -1 then [] else [32, 101, 108, 115, 101, 32] ++ l) else 32 :: l

theorem cPartK (i : Ins) (l : List UInt8) (hl : l.length < 100000) (w : World) :
    Calls Tryz.prog 182 #[iv i, bs l] w fun e w' => e = .returned (bs (kL i l)) ∧ Below w.heap.size w w' := by
  obtain ⟨op, d, s, t, u, a, k, pl⟩ := i
  unfold iv bs
  have E : kL ⟨op, d, s, t, u, a, k, pl⟩ l = (if op = 21 then (if k = 0 then [32, 101, 113] else [32, 110, 101]) else 32 :: l) := rfl
  by_cases h : op = 21
  · subst h
    by_cases hk : k = 0
    · subst hk
      have HE := Lib.hid E
      clear E
      go_enter Tryz.func182, Tryz.ntmps182
      go_wp2
      go_ret
      exact ⟨ret_bs HE.out.symm, (Below.refl _ _).alloc (Nat.le_refl _) _⟩
    · have hk2 : (k == 0) = false := by simpa using hk
      rw [if_pos rfl, if_neg hk] at E
      have HE := Lib.hid E
      clear E hk
      go_enter Tryz.func182, Tryz.ntmps182
      go_wp2
      go_ret
      exact ⟨ret_bs HE.out.symm, (Below.refl _ _).alloc (Nat.le_refl _) _⟩
  · have h1 : (op != 21) = true := by simpa using h
    have h2 : (op == 21) = false := by simpa using h
    rw [if_neg h] at E
    have HE := Lib.hid E
    have hc := run_cat [32] l (by simp; omega)
    clear E h
    go_enter Tryz.func182, Tryz.ntmps182
    go_wp2
    go_ret
    exact ⟨ret_bs HE.out.symm, (Below.refl _ _).alloc (Nat.le_refl _) _⟩

theorem cPartPlace (i : Ins) (l : List UInt8) (hl : l.length < 100000) (w : World) :
    Calls Tryz.prog 183 #[iv i, bs l] w fun e w' => e = .returned (bs (placeS i l)) ∧ Below w.heap.size w w' := by
  obtain ⟨op, d, s, t, u, a, k, pl⟩ := i
  unfold iv bs
  have E : placeS ⟨op, d, s, t, u, a, k, pl⟩ l = (if op = 21 then (if pl = -1 then [] else [32, 101, 108, 115, 101, 32] ++ l) else 32 :: l) := rfl
  by_cases h : op = 21
  · subst h
    by_cases hk : pl = -1
    · subst hk
      have HE := Lib.hid E
      clear E
      go_enter Tryz.func183, Tryz.ntmps183
      go_wp2
      go_ret
      exact ⟨ret_bs HE.out.symm, (Below.refl _ _).alloc (Nat.le_refl _) _⟩
    · have hk2 : (pl == -1) = false := by simpa using hk
      rw [if_pos rfl, if_neg hk] at E
      have HE := Lib.hid E
      have hc := run_cat [32, 101, 108, 115, 101, 32] l (by simp; omega)
      clear E hk
      go_enter Tryz.func183, Tryz.ntmps183
      go_wp2
      go_ret
      exact ⟨ret_bs HE.out.symm, (Below.refl _ _).alloc (Nat.le_refl _) _⟩
  · have h1 : (op != 21) = true := by simpa using h
    have h2 : (op == 21) = false := by simpa using h
    rw [if_neg h] at E
    have HE := Lib.hid E
    have hc := run_cat [32] l (by simp; omega)
    clear E h
    go_enter Tryz.func183, Tryz.ntmps183
    go_wp2
    go_ret
    exact ⟨ret_bs HE.out.symm, (Below.refl _ _).alloc (Nat.le_refl _) _⟩

theorem part_eq (i : Ins) (c : Int) (hc : Ltr c) : partL i c = (if c = 65 then 32 :: Lib.itoa (getI i c) else if c = 75 then kL i (Lib.itoa (getI i c)) else if c = 80 then placeS i (Lib.itoa (getI i c)) else [32, 114] ++ Lib.itoa (getI i c)) := by
  rcases hc with rfl | rfl | rfl | rfl | rfl | rfl | rfl <;> rfl

/-- What a letter stands for fits an int. -/
theorem get_fits (i : Ins) (h : i.Wf) (c : Int) : -9223372036854775808 ≤ getI i c ∧ getI i c ≤ 9223372036854775807 := by
  obtain ⟨h1, h2, h3, h4, h5, h6, h7, h8, h9, h10, h11, h12, h13, h14, h15, h16⟩ := h
  unfold getI
  repeat' split
  all_goals omega

theorem cPart (i : Ins) (h : i.Wf) (c : Int) (hc : Ltr c) (w : World) (L : Lb w) :
    Calls Tryz.prog 175 #[iv i, .int .u8 c] w fun e w' => e = .returned (bs (partL i c)) ∧ Below w.heap.size w w' := by
  obtain ⟨g0, g1⟩ := get_fits i h c
  have HG := Lib.hid (fun W => cGet i c hc h.k0 h.k1 W)
  have hil := itoa_len _ g0 g1
  have HI := Lib.hid (fun W LW => lItoa (getI i c) g0 g1 W LW)
  have E := part_eq i c hc
  have HK := Lib.hid (fun W => cPartK i (Lib.itoa (getI i c)) (by omega) W)
  have HP := Lib.hid (fun W => cPartPlace i (Lib.itoa (getI i c)) (by omega) W)
  generalize Lib.itoa (getI i c) = l at *
  generalize getI i c = v at *
  have c1 := run_cat [32] l (by simp; omega)
  have c2 := run_cat [32, 114] l (by simp; omega)
  have HE := Lib.hid E
  clear E
  generalize partL i c = pp at *
  obtain ⟨op, d, s, t, u, a, k, pl⟩ := i
  unfold iv
  rcases hc with rfl | rfl | rfl | rfl | rfl | rfl | rfl
  all_goals
    go_enter Tryz.func175, Tryz.ntmps175
    go_wp2_with fail
    refine (HG.out _).mono ?_
    rintro e x ⟨rfl, hx⟩
    obtain ⟨hIb, hb⟩ := boxed hx
    have hlt : w.heap.size < x.heap.size := Bk.lt hIb
    clear hx
    go_wp2_with fail
    refine (HI.out _ (L.below hb)).mono ?_
    rintro e y ⟨rfl, hy⟩
    replace hIb := hIb.below hy
    replace hb := hb.trans (hy.mono (Nat.le_of_lt hlt))
    clear hy hlt
    obtain ⟨c0, c1, c2, c3, c4, c5, c6, c7⟩ := hIb.cells
    simp only at c0 c1 c2 c3 c4 c5 c6 c7
    unfold bs
    first
      | (go_wp2_with fail
         refine (HK.out _).mono ?_
         rintro e z ⟨rfl, hz⟩
         go_wp2
         go_ret
         exact ⟨by rw [HE.out]; rfl, hb.trans (hz.mono hb.size)⟩)
      | (go_wp2_with fail
         refine (HP.out _).mono ?_
         rintro e z ⟨rfl, hz⟩
         go_wp2
         go_ret
         exact ⟨by rw [HE.out]; rfl, hb.trans (hz.mono hb.size)⟩)
      | (go_wp2
         go_ret
         exact ⟨by rw [HE.out]; rfl, hb⟩)
end Go.Proofs.YthdgehcghklflaaGreatDoor

/- inst.Text. -/
namespace Go.Proofs.YthdgehcghklflaaGreatDoor
open Go.ChangeShapes Go.WideShapes Go.ChangeAt Go.RowKit
set_option linter.unusedVariables false

theorem partS_len (i : Ins) (h : i.Wf) (c : Int) (hc : Ltr c) : (partL i c).length ≤ 40 := by
  obtain ⟨g0, g1⟩ := get_fits i h c
  have hl := itoa_len _ g0 g1
  rw [part_eq i c hc]
  generalize Lib.itoa (getI i c) = l at *
  unfold kL placeS
  repeat' split
  all_goals (simp; try omega)
theorem nm_len (op : Int) : (nmL op).length ≤ 5 := by
  rcases op_cases op with rfl | rfl | rfl | rfl | rfl | rfl | rfl | rfl | rfl | rfl | rfl | rfl | rfl | rfl | rfl | rfl | rfl | rfl | rfl | rfl | rfl | hn
  all_goals first | decide | (rw [(hs_none hn).2]; decide)
theorem parts_snoc (i : Ins) (l : List UInt8) (n : Nat) (h : n < l.length) : partsL i (l.take (n + 1)) = partsL i (l.take n) ++ partL i (l.getD n 0).toNat := by
  unfold partsL
  rw [List.take_succ_eq_append_getElem h, List.flatMap_append]
  simp [h]
theorem parts_len (i : Ins) (h : i.Wf) (l : List UInt8) (hl : ∀ c ∈ l, Ltr c.toNat) : (partsL i l).length ≤ 40 * l.length := by
  induction l with
  | nil => simp [partsL]
  | cons c l ih =>
    have h1 := ih fun c hc => hl c (List.mem_cons_of_mem _ hc)
    have h2 := partS_len i h c.toNat (hl c List.mem_cons_self)
    unfold partsL at *
    simp only [List.flatMap_cons, List.length_append, List.length_cons]
    omega

/-- What Text answers. -/
def textV (i : Ins) : Value := if rightB i 1073741824 = true then .tuple #[bs (textL i), .int .i64 0] else .tuple #[bs [], .int .i64 1]

set_option maxHeartbeats 1000000 in
theorem cText (i : Ins) (h : i.Wf) (w : World) (L : Lb w) :
    Calls Tryz.prog 163 #[iv i] w fun e w' => e = .returned (textV i) ∧ Below w.heap.size w w' := by
  have HR := Lib.hid (fun W => cRight i 1073741824 h.k0 h.k1 W)
  have HF := Lib.hid (cForm i.op)
  have hL := hs_ltr i.op
  have h6 := hs_len i.op
  have h5 := nm_len i.op
  have E : textV i = if rightB i 1073741824 = true then .tuple #[bs (nmL i.op ++ partsL i (hsL i.op)), .int .i64 0] else .tuple #[bs [], .int .i64 1] := rfl
  have HP := Lib.hid (fun c hc W LW => cPart i h c hc W LW)
  have HPL := Lib.hid (fun l hl => parts_len i h l hl)
  have HQL := Lib.hid (fun c hc => partS_len i h c hc)
  generalize textV i = tv at *
  generalize hsL i.op = hs at *
  generalize nmL i.op = nm at *
  have HL := Lib.hid hL
  clear hL
  obtain ⟨op, d, s, t, u, a, k, pl⟩ := i
  cases hr : rightB ⟨op, d, s, t, u, a, k, pl⟩ 1073741824 with
  | false =>
    rw [hr] at E HR
    have HE := Lib.hid E
    clear E hr
    unfold iv
    go_enter Tryz.func163, Tryz.ntmps163
    go_wp2_with fail
    refine (HR.out _).mono ?_
    rintro e x ⟨rfl, hx⟩
    obtain ⟨hIb, hb⟩ := boxed hx
    go_wp2
    go_ret2
    exact ⟨by rw [HE.out]; rfl, hb⟩
  | true =>
    rw [hr] at E HR
    have HE := Lib.hid E
    clear E hr
    unfold iv
    go_enter Tryz.func163, Tryz.ntmps163
    go_wp2_with fail
    refine (HR.out _).mono ?_
    rintro e x ⟨rfl, hx⟩
    obtain ⟨hIb, hb⟩ := boxed hx
    clear hx
    obtain ⟨c0, -⟩ := hIb.cells
    simp only at c0
    go_wp2_with fail
    refine (HF.out _).mono ?_
    rintro e w' ⟨rfl, rfl⟩
    unfold bs
    go_wp2
    go_loopw [4, 18] (fun tx v x => ∃ n : Nat, n ≤ hs.length ∧ v = .int .i64 n ∧ tx = bs (nm ++ partsL ⟨op, d, s, t, u, a, k, pl⟩ (hs.take n)) ∧ Below w.heap.size w x ∧ Ib x w.heap.size ⟨op, d, s, t, u, a, k, pl⟩) (fun _ v _ => hs.length - (intOf v).toNat)
    case atStart => exact ⟨0, Nat.zero_le _, rfl, by simp [partsL, bs], hb, hIb⟩
    case round =>
      clear c0
      clear hb hIb
      obtain ⟨n, hn, rfl, rfl, hb, hIb⟩ := hrel
      have hlt1 : w.heap.size < wr.heap.size := Bk.lt hIb
      by_cases hlt : n < hs.length
      · have hidx := run_ltr hs n hlt
        have hc : Ltr ((hs.getD n 0).toNat : Int) := HL.out _ (by simp [hlt])
        have hsn := parts_snoc ⟨op, d, s, t, u, a, k, pl⟩ hs n hlt
        have hpl := HPL.out (hs.take n) (fun c hc => HL.out c (List.mem_of_mem_take hc))
        have hpl2 : (hs.take n).length ≤ 6 := by simp; omega
        generalize ((hs.getD n 0).toNat : Int) = c at hidx hc hsn
        have hql := HQL.out c hc
        generalize partsL ⟨op, d, s, t, u, a, k, pl⟩ (hs.take n) = ps at *
        generalize hpp : partL ⟨op, d, s, t, u, a, k, pl⟩ c = pp at *
        have hsz : ¬ 9223372036854775807 < (nm ++ ps).length + pp.length := by simp; omega
        have hcat := cat_bs (nm ++ ps) pp
        generalize htp : nm ++ ps ++ pp = tp at hcat
        have HTP := Lib.hid htp
        clear htp
        generalize htx : nm ++ ps = tx at *
        have HTX := Lib.hid htx
        clear htx
        have HPP := Lib.hid hpp
        have HSN := Lib.hid hsn
        clear hpp hsn hpl hpl2 hql
        have HP2 := Lib.hid (show ∀ g : Grw wr, Calls Tryz.prog 175 #[iv ⟨op, d, s, t, u, a, k, pl⟩, .int .u8 c] g.x fun e w' => e = .returned (.string ⟨pp.toArray⟩) ∧ Below g.x.heap.size g.x w' from fun g => by
          have hp := HP.out c hc g.x ((L.below hb).grw g)
          rw [HPP.out] at hp
          exact hp)
        obtain ⟨g0, g1, g2, g3, g4, g5, g6, g7⟩ := hIb.grw
        simp only at g0 g1 g2 g3 g4 g5 g6 g7
        unfold bs
        go_wp2_with fail
        refine wp_region_grow (by kernel_rfl) (by kernel_rfl) ?_
        repeat (go_big_quiet_step ((go_at_call 175; exact grw_call (HP2.out _))))
        refine wpQuiet_nil ?_
        rintro y ⟨⟨_, hy⟩, rfl⟩
        replace hb := hb.trans (hy.mono (Nat.le_of_lt hlt1))
        replace hIb := hIb.below hy
        clear g0 g1 g2 g3 g4 g5 g6 g7 hy hidx hcat hsz HP2
        have hn1 : (n : Int) + 1 ≤ 6 := by omega
        go_wp2
        go_roundw
        case rel => exact ⟨n + 1, by omega, by go_num, by rw [HSN.out, ← List.append_assoc, HTX.out, HTP.out], hb, hIb⟩
        case measure => simp [intOf]; omega
      · obtain rfl : n = hs.length := by omega
        rw [List.take_length]
        go_wp2
        go_ret2
        exact ⟨by rw [HE.out]; rfl, hb⟩
end Go.Proofs.YthdgehcghklflaaGreatDoor

/- inst.opNamed, inst.valueAt. -/
namespace Go.Proofs.YthdgehcghklflaaGreatDoor
open Go.ChangeShapes Go.WideShapes Go.ChangeAt Go.RowKit
set_option linter.unusedVariables false

theorem opFrom_succ (w : List UInt8) (n : Nat) (k : Int) : opFrom w (n + 1) k = if (hsL k).isEmpty = false ∧ nmL k = w then k else opFrom w n (k + 1) := rfl

theorem cOpNamed (s : List UInt8) (w : World) :
    Calls Tryz.prog 172 #[bs s] w fun e w' => e = .returned (.int .i64 (opN s)) ∧ w = w' := by
  have HE := Lib.hid (show opN s = opFrom s 23 1 from rfl)
  generalize opN s = r at *
  unfold bs
  go_enter Tryz.func172, Tryz.ntmps172
  go_wp2
  go_loop [3] (fun v => ∃ k : Nat, 1 ≤ k ∧ k ≤ 24 ∧ v = .int .i64 k ∧ r = opFrom s (24 - k) k) (fun v => 24 - (intOf v).toNat)
  case atStart => exact ⟨1, by omega, by omega, rfl, HE.out⟩
  case round =>
    obtain ⟨k, h1, h24, rfl, hr⟩ := hrel
    by_cases hk : k ≤ 23
    · have e1 : 24 - k = (24 - (k + 1)) + 1 := by omega
      rw [e1, opFrom_succ] at hr
      have HF := Lib.hid (cForm k w)
      have hk2 : (k : Int) ≤ 23 := by omega
      have HR := Lib.hid hr
      clear hr e1
      generalize hsL k = hs at *
      generalize nmL k = nm at *
      go_wp2_with fail
      refine HF.out.mono ?_
      rintro e w' ⟨rfl, rfl⟩
      unfold bs
      by_cases he : hs = []
      · subst he
        rw [if_neg (by simp)] at HR
        go_wp2
        go_round
        case rel => exact ⟨k + 1, by omega, by omega, by go_num, by rw [HR.out]; rfl⟩
        case measure => simp [intOf]; omega
      have he1 : hs.isEmpty = false := by simpa using he
      by_cases hq : nm = s
      · subst hq
        rw [if_pos ⟨he1, rfl⟩] at HR
        have hq1 : (nm == nm) = true := by simp
        go_wp2
        go_ret
        exact ⟨ret_int HR.out.symm, rfl⟩
      · have hq1 : (nm == s) = false := by simpa using hq
        rw [if_neg (fun h => hq h.2)] at HR
        go_wp2
        go_round
        case rel => exact ⟨k + 1, by omega, by omega, by go_num, by rw [HR.out]; rfl⟩
        case measure => simp [intOf]; omega
    · obtain rfl : k = 24 := by omega
      go_wp2
      go_ret
      exact ⟨ret_int rfl, rfl⟩

theorem cValueAt (v : Value) (ws : List (List UInt8)) (n : Nat) (hn : n < 100) (hw : ∀ l ∈ ws, l.length < 4294967281) (w : World) (hs : Strs w v ws) (L : Lb w) :
    Calls Tryz.prog 173 #[v, .int .i64 n] w fun e w' => e = .returned (.int .i64 (valAt ws n)) ∧ Below w.heap.size w w' := by
  obtain ⟨g, cap, rfl, hc1, hc2, hg, hcell⟩ := hs
  by_cases hlt : n < ws.length
  · have hx := hcell n hlt
    have hmem : ws.getD n [] ∈ ws := by simp [hlt]
    have E : valAt ws n = valL (ws.getD n []) := by unfold valAt; rw [if_pos hlt]
    have hl := hw _ hmem
    generalize ws.getD n [] = l at *
    clear hmem hcell
    generalize valAt ws n = r at *
    have HT := Lib.hid (fun W => lTrim l [114] W)
    have htl : (Lib.trimPrefix l [114]).length ≤ 4294967281 := by
      unfold Lib.trimPrefix
      split
      · simp; omega
      · omega
    unfold bs at hx
    by_cases h1 : l = [101, 113]
    · subst h1
      have HE := Lib.hid (E.trans (show valL [101, 113] = 0 from rfl))
      clear E
      go_enter Tryz.func173, Tryz.ntmps173
      go_wp2
      go_ret
      exact ⟨ret_int HE.out.symm, Below.refl _ _⟩
    by_cases h2 : l = [110, 101]
    · subst h2
      have HE := Lib.hid (E.trans (show valL [110, 101] = 1 from rfl))
      clear E
      go_enter Tryz.func173, Tryz.ntmps173
      go_wp2
      go_ret
      exact ⟨ret_int HE.out.symm, Below.refl _ _⟩
    have b1 : (l == [101, 113]) = false := by simpa using h1
    have b2 : (l == [110, 101]) = false := by simpa using h2
    unfold valL at E
    rw [if_neg h1, if_neg h2] at E
    clear h1 h2
    generalize Lib.trimPrefix l [114] = tl at *
    cases ha : Lib.atoiAll tl with
    | ok x =>
      rw [ha] at E
      have HE := Lib.hid E
      have HA := Lib.hid (fun W => lAtoiOk tl (by omega) x ha W)
      clear E ha
      go_enter Tryz.func173, Tryz.ntmps173
      go_wp2_with fail
      refine (HT.out _).mono ?_
      rintro e w' ⟨rfl, rfl⟩
      go_wp2_with fail
      refine (HA.out _).mono ?_
      rintro e y ⟨rfl, hy⟩
      go_wp2
      go_ret
      exact ⟨ret_int HE.out.symm, hy⟩
    | _ =>
      rw [ha] at E
      have HE := Lib.hid E
      have HA := Lib.hid (fun W LW => lAtoiNo tl (by omega) (by rw [ha]; intro v h; cases h) W LW)
      clear E ha
      go_enter Tryz.func173, Tryz.ntmps173
      go_wp2_with fail
      refine (HT.out _).mono ?_
      rintro e w' ⟨rfl, rfl⟩
      go_wp2_with fail
      refine (HA.out _ L).mono ?_
      rintro e y ⟨x, b, rfl, hy⟩
      go_wp2
      go_ret
      exact ⟨ret_int HE.out.symm, hy⟩
  · have E : valAt ws n = -1 := by unfold valAt; rw [if_neg hlt]
    have HE := Lib.hid E
    clear E hcell
    generalize valAt ws n = r at *
    generalize ws.length = m at *
    go_enter Tryz.func173, Tryz.ntmps173
    go_wp2
    go_ret
    exact ⟨ret_int HE.out.symm, Below.refl _ _⟩
end Go.Proofs.YthdgehcghklflaaGreatDoor

/- inst.draft. -/
namespace Go.Proofs.YthdgehcghklflaaGreatDoor
open Go.ChangeShapes Go.WideShapes Go.ChangeAt Go.RowKit
set_option linter.unusedVariables false

theorem fill_snoc (ws : List (List UInt8)) : ∀ (l : List UInt8) (m : Nat) (i : Ins) (n : Nat), n < l.length → fillI ws (l.take (n + 1)) m i = setI (fillI ws (l.take n) m i) (l.getD n 0).toNat (valAt ws (m + n + 1))
  | [], _, _, n, h => by simp at h
  | c :: l, m, i, 0, _ => by simp [fillI]
  | c :: l, m, i, n + 1, h => by
    have := fill_snoc ws l (m + 1) (setI i c.toNat (valAt ws (m + 1))) n (by simpa using h)
    simp only [List.take_succ_cons, fillI, List.getD_cons_succ]
    rw [this]
    congr 2
    omega
theorem fill_op (ws : List (List UInt8)) : ∀ (l : List UInt8) (m : Nat) (i : Ins), (fillI ws l m i).op = i.op
  | [], _, _ => rfl
  | c :: l, m, i => by
    rw [fillI, fill_op ws l]
    unfold setI
    simp only [apply_ite Ins.op]
    repeat' split
    all_goals rfl

set_option maxHeartbeats 1000000 in
theorem cDraft (v : Value) (ws : List (List UInt8)) (h0 : 0 < ws.length) (hw : ∀ l ∈ ws, l.length < 4294967281) (w : World) (hs : Strs w v ws) (L : Lb w) :
    Calls Tryz.prog 161 #[v] w fun e w' => e = .returned (iv (draftI ws)) ∧ Below w.heap.size w w' := by
  have HD := Lib.hid (show draftI ws = lastI ws (fillI ws (hsL (opN (ws.getD 0 []))) 0 { Ins.zero with op := opN (ws.getD 0 []) }) from rfl)
  generalize draftI ws = res at *
  have HV := Lib.hid (fun n hn W hS LW => cValueAt v ws n hn hw W hS LW)
  have HS := Lib.hid hs
  obtain ⟨g, cap, rfl, hc1, hc2, hg, hcell⟩ := hs
  have hx := hcell 0 h0
  have HO := Lib.hid (fun W => cOpNamed (ws.getD 0 []) W)
  have HX := Lib.hid (show bs (ws.getD 0 []) = bs (ws.getD 0 []) from rfl)
  unfold bs at hx
  have HO2 := Lib.hid (show ∀ W, Calls Tryz.prog 172 #[.string ⟨(ws.getD 0 []).toArray⟩] W fun e w' => e = .returned (.int .i64 (opN (ws.getD 0 []))) ∧ W = w' from HO.out)
  clear HO HX
  generalize opN (ws.getD 0 []) = op at *
  generalize (ws.getD 0 []) = w0 at *
  clear hcell
  have HF := Lib.hid (cForm op)
  have hL := hs_ltr op
  have h6 := hs_len op
  generalize hsL op = hs at *
  generalize nmL op = nm at *
  have HL := Lib.hid hL
  clear hL
  have hlen : (0 : Int) < (ws.length : Int) := by omega
  go_enter Tryz.func161, Tryz.ntmps161
  go_wp2_with fail
  refine (HO2.out _).mono ?_
  rintro e w' ⟨rfl, rfl⟩
  go_wp2_with fail
  refine (HF.out _).mono ?_
  rintro e w' ⟨rfl, rfl⟩
  unfold bs
  go_wp2
  go_loopw [20] (fun v x => ∃ n : Nat, n ≤ hs.length ∧ v = .int .i64 n ∧ Below w.heap.size w x ∧ Bk x w.heap.size 119 #[.int .i64 0, .int .i64 0, .int .i64 0, .int .i64 0, .int .i64 0, .int .i64 0, .int .u32 0, .int .i64 0] ∧ Ib x (w.heap.size + 1) (fillI ws (hs.take n) 0 { Ins.zero with op := op })) (fun v _ => hs.length - (intOf v).toNat)
  case atStart =>
    refine ⟨0, Nat.zero_le _, rfl, ?_, ?_, ?_⟩
    · exact (((Below.refl _ _).alloc (Nat.le_refl _) _).alloc (by simp) _)
    · exact (Bk.made _ _ _).alloc _
    · have := Ib.made (w.alloc (.cells #[.int .i64 0, .int .i64 0, .int .i64 0, .int .i64 0, .int .i64 0, .int .i64 0, .int .u32 0, .int .i64 0] 119)) op 0 0 0 0 0 0 0
      rw [show (w.alloc (.cells #[.int .i64 0, .int .i64 0, .int .i64 0, .int .i64 0, .int .i64 0, .int .i64 0, .int .u32 0, .int .i64 0] 119)).heap.size = w.heap.size + 1 by simp] at this
      exact this
  case round =>
    obtain ⟨n, hn, rfl, hb, hR, hZ⟩ := hrel
    generalize wr = x at *
    have hlt1 : w.heap.size < x.heap.size := Bk.lt hR
    have hlt2 : w.heap.size + 1 < x.heap.size := Bk.lt hZ
    by_cases hlt : n < hs.length
    · have hidx := run_ltr hs n hlt
      have hc : Ltr ((hs.getD n 0).toNat : Int) := HL.out _ (by simp [hlt])
      have hsn := fill_snoc ws hs 0 { Ins.zero with op := op } n hlt
      rw [Nat.zero_add] at hsn
      generalize ((hs.getD n 0).toNat : Int) = c at hidx hc hsn
      generalize fillI ws (hs.take n) 0 { Ins.zero with op := op } = z at hZ hsn
      have HSN := Lib.hid hsn
      clear hsn
      obtain ⟨zop, zd, zs, zt, zu, za, zk, zpl⟩ := z
      have HV2 := Lib.hid (show ∀ W, Below x.heap.size x W → Calls Tryz.prog 173 #[.slice (some ⟨g, 0, none⟩) ws.length cap, .int .i64 ((n : Int) + 1)] W fun e w' => e = .returned (.int .i64 (valAt ws (n + 1))) ∧ Below W.heap.size W w' from fun W hW => by
        have hbw := hb.trans (hW.mono (Nat.le_of_lt hlt1))
        exact HV.out (n + 1) (by omega) W (HS.out.below hbw) (L.below hbw))
      generalize valAt ws (n + 1) = vv at *
      obtain ⟨c0, c1, c2, c3, c4, c5, c6, c7⟩ := hZ.cells
      simp only at c0 c1 c2 c3 c4 c5 c6 c7
      have hw1 : IntKind.i64.wrap ((n : Int) + 1) = (n : Int) + 1 := IntWalk.i64_in _ (by omega)
      go_wp2_with fail
      go_region_law (first | (go_simp; go_at_call 173; refine (HV2.out _ (Below.refl _ _).drew).mono ?_; rintro e y1 ⟨rfl, hy1⟩; replace hy1 := below_of_drew hy1; obtain ⟨d0, d1, d2, d3, d4, d5, d6, d7⟩ := (hZ.below hy1).cells) | (go_simp; go_at_call 112; refine (cSet ⟨zop, zd, zs, zt, zu, za, zk, zpl⟩ _ vv hc _).mono ?_; rintro e y ⟨rfl, hy⟩; replace hy := hy1.trans (hy.mono hy1.size); obtain ⟨e0, e1, e2, e3, e4, e5, e6, e7⟩ := (hZ.below hy).cells; have hf := Bk.free (hZ.below hy); generalize hz2 : setI ⟨zop, zd, zs, zt, zu, za, zk, zpl⟩ c vv = z2; have HZ2 := Lib.hid hz2; clear hz2; obtain ⟨yop, yd, ys, yt, yu, ya, yk, ypl⟩ := z2; unfold iv))
      all_goals
        generalize hv : ((((((((y.setCell ⟨w.heap.size + 1, 0, none⟩ (.int .i64 yop)).setCell ⟨w.heap.size + 1, 1, none⟩ (.int .i64 yd)).setCell ⟨w.heap.size + 1, 2, none⟩ (.int .i64 ys)).setCell ⟨w.heap.size + 1, 3, none⟩ (.int .i64 yt)).setCell ⟨w.heap.size + 1, 4, none⟩ (.int .i64 yu)).setCell ⟨w.heap.size + 1, 5, none⟩ (.int .i64 ya)).setCell ⟨w.heap.size + 1, 6, none⟩ (.int .u32 yk)).setCell ⟨w.heap.size + 1, 7, none⟩ (.int .i64 ypl)) = v
        have hv2 : put8 y (w.heap.size + 1) ⟨yop, yd, ys, yt, yu, ya, yk, ypl⟩ = v := hv
        clear hv
        have hA := put8_ib (i := ⟨yop, yd, ys, yt, yu, ya, yk, ypl⟩) (hZ.below hy)
        have hB := put8_off (i := ⟨yop, yd, ys, yt, yu, ya, yk, ypl⟩) ((hy.block w.heap.size hlt1).trans hR : Bk y w.heap.size 119 _) (show w.heap.size ≠ w.heap.size + 1 by omega)
        have hC := put8_below (i := ⟨yop, yd, ys, yt, yu, ya, yk, ypl⟩) (hb.trans (hy.mono (Nat.le_of_lt hlt1))) (show w.heap.size ≤ w.heap.size + 1 by omega)
        rw [hv2] at hA hB hC
        clear hv2 d0 d1 d2 d3 d4 d5 d6 d7 e0 e1 e2 e3 e4 e5 e6 e7 hf c0 c1 c2 c3 c4 c5 c6 c7 hidx hw1
        have hn1 : (n : Int) + 1 ≤ 6 := by omega
        go_wp2
        go_roundw
        case rel => exact ⟨n + 1, by omega, by go_num, hC, hB, by rw [HSN.out, HZ2.out]; exact hA⟩
        case measure => simp [intOf]; omega
    · obtain rfl : n = hs.length := by omega
      rw [List.take_length] at hZ
      have hop := fill_op ws hs 0 { Ins.zero with op := op }
      have HD2 := Lib.hid HD.out
      generalize fillI ws hs 0 { Ins.zero with op := op } = z at hZ hop HD2
      obtain ⟨zop, zd, zs, zt, zu, za, zk, zpl⟩ := z
      simp only at hop
      obtain ⟨c0, c1, c2, c3, c4, c5, c6, c7⟩ := hZ.cells
      simp only at c0 c1 c2 c3 c4 c5 c6 c7
      subst hop
      by_cases h21 : zop = 21
      · subst h21
        have HV2 := Lib.hid (HV.out 7 (by omega) x (HS.out.below hb) (L.below hb))
        generalize hvv : valAt ws 7 = vv at *
        have E2 := Lib.hid (HD2.out.trans (show lastI ws ⟨21, zd, zs, zt, zu, za, zk, zpl⟩ = ⟨21, zd, zs, zt, zu, za, zk, vv⟩ by unfold lastI; simp [hvv]))
        clear hvv
        go_wp2_with fail
        refine HV2.out.mono ?_
        rintro e y ⟨rfl, hy⟩
        obtain ⟨d0, d1, d2, d3, d4, d5, d6, d7⟩ := (hZ.below hy).cells
        have hf := Bk.free (hZ.below hy)
        have hRy : Ib y w.heap.size Ins.zero := (hy.block w.heap.size hlt1).trans hR
        obtain ⟨r0, r1, r2, r3, r4, r5, r6, r7⟩ := hRy.cells
        have hfR := Bk.free hRy
        go_wp2
        generalize hv : (((((((((y.setCell ⟨w.heap.size + 1, 7, none⟩ (.int .i64 vv)).setCell ⟨w.heap.size, 0, none⟩ (.int .i64 21)).setCell ⟨w.heap.size, 1, none⟩ (.int .i64 zd)).setCell ⟨w.heap.size, 2, none⟩ (.int .i64 zs)).setCell ⟨w.heap.size, 3, none⟩ (.int .i64 zt)).setCell ⟨w.heap.size, 4, none⟩ (.int .i64 zu)).setCell ⟨w.heap.size, 5, none⟩ (.int .i64 za)).setCell ⟨w.heap.size, 6, none⟩ (.int .u32 zk)).setCell ⟨w.heap.size, 7, none⟩ (.int .i64 vv)) = v
        have hv2 : put8 (y.setCell ⟨w.heap.size + 1, 7, none⟩ (.int .i64 vv)) w.heap.size ⟨21, zd, zs, zt, zu, za, zk, vv⟩ = v := hv
        clear hv
        have hA := put8_ib (i := ⟨21, zd, zs, zt, zu, za, zk, vv⟩) (show Ib (y.setCell ⟨w.heap.size + 1, 7, none⟩ (.int .i64 vv)) w.heap.size Ins.zero from Bk.off hRy (show w.heap.size ≠ w.heap.size + 1 by omega) _)
        have hC := put8_below (i := ⟨21, zd, zs, zt, zu, za, zk, vv⟩) ((hb.trans (hy.mono (Nat.le_of_lt hlt1))).setCell (p := ⟨w.heap.size + 1, 7, none⟩) (show w.heap.size ≤ w.heap.size + 1 by omega) (.int .i64 vv)) (Nat.le_refl _)
        rw [hv2] at hA hC
        clear hv2
        obtain ⟨q0, q1, q2, q3, q4, q5, q6, q7⟩ := hA.cells
        simp only at q0 q1 q2 q3 q4 q5 q6 q7
        refine bodyPost_ret (v := .agg #[.int .i64 21, .int .i64 zd, .int .i64 zs, .int .i64 zt, .int .i64 zu, .int .i64 za, .int .u32 zk, .int .i64 vv]) (by simp [results, Tryz.results161, go_sem, q0, q1, q2, q3, q4, q5, q6, q7]) rfl ⟨by rw [E2.out]; rfl, hC⟩
      · have b21 : (zop == 21) = false := by simpa using h21
        have E2 := Lib.hid (HD2.out.trans (show lastI ws ⟨zop, zd, zs, zt, zu, za, zk, zpl⟩ = ⟨zop, zd, zs, zt, zu, za, zk, zpl⟩ by unfold lastI; rw [if_neg h21]))
        have hRy : Ib x w.heap.size Ins.zero := hR
        obtain ⟨r0, r1, r2, r3, r4, r5, r6, r7⟩ := hRy.cells
        have hfR := Bk.free hRy
        clear h21
        go_wp2
        generalize hv : ((((((((x.setCell ⟨w.heap.size, 0, none⟩ (.int .i64 zop)).setCell ⟨w.heap.size, 1, none⟩ (.int .i64 zd)).setCell ⟨w.heap.size, 2, none⟩ (.int .i64 zs)).setCell ⟨w.heap.size, 3, none⟩ (.int .i64 zt)).setCell ⟨w.heap.size, 4, none⟩ (.int .i64 zu)).setCell ⟨w.heap.size, 5, none⟩ (.int .i64 za)).setCell ⟨w.heap.size, 6, none⟩ (.int .u32 zk)).setCell ⟨w.heap.size, 7, none⟩ (.int .i64 zpl)) = v
        have hv2 : put8 x w.heap.size ⟨zop, zd, zs, zt, zu, za, zk, zpl⟩ = v := hv
        clear hv
        have hA := put8_ib (i := ⟨zop, zd, zs, zt, zu, za, zk, zpl⟩) hRy
        have hC := put8_below (i := ⟨zop, zd, zs, zt, zu, za, zk, zpl⟩) hb (Nat.le_refl _)
        rw [hv2] at hA hC
        clear hv2
        obtain ⟨q0, q1, q2, q3, q4, q5, q6, q7⟩ := hA.cells
        simp only at q0 q1 q2 q3 q4 q5 q6 q7
        refine bodyPost_ret (v := .agg #[.int .i64 zop, .int .i64 zd, .int .i64 zs, .int .i64 zt, .int .i64 zu, .int .i64 za, .int .u32 zk, .int .i64 zpl]) (by simp [results, Tryz.results161, go_sem, q0, q1, q2, q3, q4, q5, q6, q7]) rfl ⟨by rw [E2.out]; rfl, hC⟩
end Go.Proofs.YthdgehcghklflaaGreatDoor

/- inst.Parse. -/
namespace Go.Proofs.YthdgehcghklflaaGreatDoor
open Go.ChangeShapes Go.WideShapes Go.ChangeAt Go.RowKit
set_option linter.unusedVariables false

theorem splitK_pos (sep : List UInt8) : ∀ (k : Nat) (s : List UInt8), 0 < (Lib.splitK sep 0 k s).length
  | 0, _ => by simp [Lib.splitK]
  | k + 1, s => by unfold Lib.splitK; split <;> simp
theorem splitK_le (sep : List UInt8) : ∀ (k : Nat) (s : List UInt8), ∀ l ∈ Lib.splitK sep 0 k s, l.length ≤ s.length
  | 0, s, l, h => by simp [Lib.splitK] at h; subst h; exact Nat.le_refl _
  | k + 1, s, l, h => by
    unfold Lib.splitK at h
    split at h
    · simp at h; subst h; exact Nat.le_refl _
    · rcases List.mem_cons.1 h with rfl | h
      · simp; omega
      · have := splitK_le sep k _ l h
        simp at this
        omega

theorem valL_in (l : List UInt8) : -9223372036854775808 ≤ valL l ∧ valL l ≤ 9223372036854775807 := by
  unfold valL
  split
  · omega
  split
  · omega
  split
  · rename_i v h; exact Lib.atoiAll_bounds h
  · omega
theorem valAt_in (ws : List (List UInt8)) (n : Nat) : -9223372036854775808 ≤ valAt ws n ∧ valAt ws n ≤ 9223372036854775807 := by
  unfold valAt
  split
  · exact valL_in _
  · omega
theorem set_wf (i : Ins) (h : i.Wf) (c v : Int) (h0 : -9223372036854775808 ≤ v) (h1 : v ≤ 9223372036854775807) : (setI i c v).Wf := by
  obtain ⟨a1, a2, a3, a4, a5, a6, a7, a8, a9, a10, a11, a12, a13, a14, a15, a16⟩ := h
  have hm0 : 0 ≤ v % 4294967296 := by omega
  have hm1 : v % 4294967296 < 4294967296 := by omega
  unfold setI
  by_cases c1 : c = 68
  · rw [if_pos c1]; constructor <;> assumption
  rw [if_neg c1]
  by_cases c2 : c = 83
  · rw [if_pos c2]; constructor <;> assumption
  rw [if_neg c2]
  by_cases c3 : c = 84
  · rw [if_pos c3]; constructor <;> assumption
  rw [if_neg c3]
  by_cases c4 : c = 85
  · rw [if_pos c4]; constructor <;> assumption
  rw [if_neg c4]
  by_cases c5 : c = 65
  · rw [if_pos c5]; constructor <;> assumption
  rw [if_neg c5]
  by_cases c6 : c = 75
  · rw [if_pos c6]; constructor <;> assumption
  rw [if_neg c6]
  by_cases c7 : c = 80
  · rw [if_pos c7]; constructor <;> assumption
  rw [if_neg c7]; constructor <;> assumption
theorem fill_wf (ws : List (List UInt8)) : ∀ (l : List UInt8) (m : Nat) (i : Ins), i.Wf → (fillI ws l m i).Wf
  | [], _, _, h => h
  | c :: l, m, i, h => by
    rw [fillI]
    exact fill_wf ws l _ _ (set_wf i h _ _ (valAt_in ws _).1 (valAt_in ws _).2)
theorem opFrom_in (s : List UInt8) : ∀ (n : Nat) (k : Int), 0 ≤ k → 0 ≤ opFrom s n k ∧ opFrom s n k ≤ k + n
  | 0, k, h => by unfold opFrom; omega
  | n + 1, k, h => by
    unfold opFrom
    split
    · omega
    · have := opFrom_in s n (k + 1) (by omega)
      omega
theorem draft_wf (ws : List (List UInt8)) : (draftI ws).Wf := by
  unfold draftI lastI
  have h1 := opFrom_in (ws.getD 0 []) 23 1 (by omega)
  have h2 : opN (ws.getD 0 []) = opFrom (ws.getD 0 []) 23 1 := rfl
  generalize opN (ws.getD 0 []) = op at *
  have hw : (fillI ws (hsL op) 0 { Ins.zero with op := op }).Wf := fill_wf ws _ _ _ (by unfold Ins.zero; constructor <;> simp <;> omega)
  generalize fillI ws (hsL op) 0 { Ins.zero with op := op } = i at *
  split
  · obtain ⟨a1, a2, a3, a4, a5, a6, a7, a8, a9, a10, a11, a12, a13, a14, a15, a16⟩ := hw
    have hv := valAt_in ws 7
    obtain ⟨v0, v1⟩ := hv
    constructor <;> assumption
  · exact hw

/-- What Parse answers. -/
def parsedI (s : List UInt8) : Ins := draftI (splitL s)
def parseB (s : List UInt8) : Bool := rightB (parsedI s) 1073741824 && decide (textL (parsedI s) = s)
def parseV (s : List UInt8) : Value := if parseB s = true then .tuple #[iv (parsedI s), .int .i64 0] else .tuple #[iv Ins.zero, .int .i64 8]

set_option maxHeartbeats 1000000 in
theorem cParse (s : List UInt8) (hl : s.length < 4294967281) (w : World) (L : Lb w) :
    Calls Tryz.prog 140 #[bs s] w fun e w' => e = .returned (parseV s) ∧ Below w.heap.size w w' := by
  have HS := Lib.hid (fun W LW => lSplit s hl W LW)
  have h0 : 0 < (splitL s).length := splitK_pos _ _ _
  have hw : ∀ l ∈ splitL s, l.length < 4294967281 := fun l h => Nat.lt_of_le_of_lt (splitK_le _ _ _ l h) hl
  have HD := Lib.hid (fun v W hS LW => cDraft v (splitL s) h0 hw W hS LW)
  have HT := Lib.hid (fun W LW => cText (parsedI s) (draft_wf _) W LW)
  have E : parseV s = if (rightB (parsedI s) 1073741824 && decide (textL (parsedI s) = s)) = true then .tuple #[iv (parsedI s), .int .i64 0] else .tuple #[iv Ins.zero, .int .i64 8] := rfl
  have HD2 := Lib.hid (show ∀ v W, Strs W v (splitL s) → Lb W → Calls Tryz.prog 161 #[v] W fun e w' => e = .returned (iv (parsedI s)) ∧ Below W.heap.size W w' from HD.out)
  clear HD h0 hw
  generalize parseV s = res at *
  generalize parsedI s = i at *
  have HE := Lib.hid E
  clear E
  obtain ⟨op, d, s', t, u, a, k, pl⟩ := i
  unfold bs
  go_enter Tryz.func140, Tryz.ntmps140
  go_wp2_with fail
  have b1 : Below w.heap.size w (w.alloc (.cells #[.int .i64 0, .int .i64 0, .int .i64 0, .int .i64 0, .int .i64 0, .int .i64 0, .int .u32 0, .int .i64 0] 119)) := (Below.refl _ _).alloc (Nat.le_refl _) _
  have m1 : Ib (w.alloc (.cells #[.int .i64 0, .int .i64 0, .int .i64 0, .int .i64 0, .int .i64 0, .int .i64 0, .int .u32 0, .int .i64 0] 119)) w.heap.size Ins.zero := Bk.made _ _ _
  generalize w.alloc (.cells #[.int .i64 0, .int .i64 0, .int .i64 0, .int .i64 0, .int .i64 0, .int .i64 0, .int .u32 0, .int .i64 0] 119) = x1 at *
  refine (HS.out x1 (L.below b1)).mono ?_
  rintro e x2 ⟨v, rfl, hS, b2⟩
  replace m1 := m1.below b2
  replace b2 := b1.trans (b2.mono b1.size)
  clear b1
  go_wp2_with fail
  refine (HD2.out v _ hS (L.below b2)).mono ?_
  rintro e x3 ⟨rfl, b3⟩
  replace m1 := m1.below b3
  replace b3 := b2.trans (b3.mono b2.size)
  clear b2 hS x2 x1
  unfold iv
  go_wp2_with fail
  have b4 : Below w.heap.size w (x3.alloc (.cells #[.int .i64 op, .int .i64 d, .int .i64 s', .int .i64 t, .int .i64 u, .int .i64 a, .int .u32 k, .int .i64 pl] 119)) := b3.alloc b3.size _
  have m2 := Ib.made x3 op d s' t u a k pl
  have m3 : Ib (x3.alloc (.cells #[.int .i64 op, .int .i64 d, .int .i64 s', .int .i64 t, .int .i64 u, .int .i64 a, .int .u32 k, .int .i64 pl] 119)) w.heap.size Ins.zero := Bk.alloc m1 _
  have hne : w.heap.size ≠ x3.heap.size := Nat.ne_of_lt (Bk.lt m1)
  clear m1 b3
  generalize x3.heap.size = g at *
  generalize x3.alloc (.cells #[.int .i64 op, .int .i64 d, .int .i64 s', .int .i64 t, .int .i64 u, .int .i64 a, .int .u32 k, .int .i64 pl] 119) = x4 at *
  refine (HT.out x4 (L.below b4)).mono ?_
  rintro e y ⟨rfl, hy⟩
  replace m2 := m2.below hy
  replace m3 := m3.below hy
  replace b4 := b4.trans (hy.mono b4.size)
  clear hy x4 HT HD2 HS
  obtain ⟨c0, c1, c2, c3, c4, c5, c6, c7⟩ := m2.cells
  obtain ⟨r0, r1, r2, r3, r4, r5, r6, r7⟩ := m3.cells
  have hfR := Bk.free m3
  simp only at c0 c1 c2 c3 c4 c5 c6 c7
  unfold Ins.zero at r0 r1 r2 r3 r4 r5 r6 r7
  simp only at r0 r1 r2 r3 r4 r5 r6 r7
  unfold textV
  cases hr : rightB ⟨op, d, s', t, u, a, k, pl⟩ 1073741824 with
  | false =>
    rw [hr] at HE
    clear hr
    rw [if_neg (by decide)]
    unfold bs
    go_wp2
    generalize hv : ((((((((y.setCell ⟨w.heap.size, 0, none⟩ (.int .i64 0)).setCell ⟨w.heap.size, 1, none⟩ (.int .i64 0)).setCell ⟨w.heap.size, 2, none⟩ (.int .i64 0)).setCell ⟨w.heap.size, 3, none⟩ (.int .i64 0)).setCell ⟨w.heap.size, 4, none⟩ (.int .i64 0)).setCell ⟨w.heap.size, 5, none⟩ (.int .i64 0)).setCell ⟨w.heap.size, 6, none⟩ (.int .u32 0)).setCell ⟨w.heap.size, 7, none⟩ (.int .i64 0)) = v9
    have hv2 : put8 y w.heap.size ⟨0, 0, 0, 0, 0, 0, 0, 0⟩ = v9 := hv
    clear hv
    have hA := put8_ib (i := ⟨0, 0, 0, 0, 0, 0, 0, 0⟩) m3
    have hC := put8_below (i := ⟨0, 0, 0, 0, 0, 0, 0, 0⟩) b4 (Nat.le_refl _)
    rw [hv2] at hA hC
    clear hv2
    obtain ⟨q0, q1, q2, q3, q4, q5, q6, q7⟩ := hA.cells
    simp only at q0 q1 q2 q3 q4 q5 q6 q7
    refine bodyPost_ret (v := .tuple #[.agg #[.int .i64 0, .int .i64 0, .int .i64 0, .int .i64 0, .int .i64 0, .int .i64 0, .int .u32 0, .int .i64 0], .int .i64 8]) (by simp [results, Tryz.results140, go_sem, q0, q1, q2, q3, q4, q5, q6, q7]) rfl ⟨?_, hC⟩
    rw [HE.out]; rfl
  | true =>
    rw [hr] at HE
    clear hr
    rw [if_pos rfl]
    generalize textL ⟨op, d, s', t, u, a, k, pl⟩ = tx at *
    unfold bs
    by_cases hq : tx = s
    · subst hq
      have hq1 : (tx == tx) = true := by simp
      have HE2 := Lib.hid (HE.out.trans (if_pos (by simp)))
      clear HE
      go_wp2
      generalize hv : ((((((((y.setCell ⟨w.heap.size, 0, none⟩ (.int .i64 op)).setCell ⟨w.heap.size, 1, none⟩ (.int .i64 d)).setCell ⟨w.heap.size, 2, none⟩ (.int .i64 s')).setCell ⟨w.heap.size, 3, none⟩ (.int .i64 t)).setCell ⟨w.heap.size, 4, none⟩ (.int .i64 u)).setCell ⟨w.heap.size, 5, none⟩ (.int .i64 a)).setCell ⟨w.heap.size, 6, none⟩ (.int .u32 k)).setCell ⟨w.heap.size, 7, none⟩ (.int .i64 pl)) = v9
      have hv2 : put8 y w.heap.size ⟨op, d, s', t, u, a, k, pl⟩ = v9 := hv
      clear hv
      have hA := put8_ib (i := ⟨op, d, s', t, u, a, k, pl⟩) m3
      have hC := put8_below (i := ⟨op, d, s', t, u, a, k, pl⟩) b4 (Nat.le_refl _)
      rw [hv2] at hA hC
      clear hv2
      obtain ⟨q0, q1, q2, q3, q4, q5, q6, q7⟩ := hA.cells
      simp only at q0 q1 q2 q3 q4 q5 q6 q7
      refine bodyPost_ret (v := .tuple #[.agg #[.int .i64 op, .int .i64 d, .int .i64 s', .int .i64 t, .int .i64 u, .int .i64 a, .int .u32 k, .int .i64 pl], .int .i64 0]) (by simp [results, Tryz.results140, go_sem, q0, q1, q2, q3, q4, q5, q6, q7]) rfl ⟨?_, hC⟩
      rw [HE2.out]; rfl
    · have hq1 : (tx == s) = false := by simpa using hq
      have HE2 := Lib.hid (HE.out.trans (if_neg (by simp [hq])))
      clear HE hq
      go_wp2
      generalize hv : ((((((((y.setCell ⟨w.heap.size, 0, none⟩ (.int .i64 0)).setCell ⟨w.heap.size, 1, none⟩ (.int .i64 0)).setCell ⟨w.heap.size, 2, none⟩ (.int .i64 0)).setCell ⟨w.heap.size, 3, none⟩ (.int .i64 0)).setCell ⟨w.heap.size, 4, none⟩ (.int .i64 0)).setCell ⟨w.heap.size, 5, none⟩ (.int .i64 0)).setCell ⟨w.heap.size, 6, none⟩ (.int .u32 0)).setCell ⟨w.heap.size, 7, none⟩ (.int .i64 0)) = v9
      have hv2 : put8 y w.heap.size ⟨0, 0, 0, 0, 0, 0, 0, 0⟩ = v9 := hv
      clear hv
      have hA := put8_ib (i := ⟨0, 0, 0, 0, 0, 0, 0, 0⟩) m3
      have hC := put8_below (i := ⟨0, 0, 0, 0, 0, 0, 0, 0⟩) b4 (Nat.le_refl _)
      rw [hv2] at hA hC
      clear hv2
      obtain ⟨q0, q1, q2, q3, q4, q5, q6, q7⟩ := hA.cells
      simp only at q0 q1 q2 q3 q4 q5 q6 q7
      refine bodyPost_ret (v := .tuple #[.agg #[.int .i64 0, .int .i64 0, .int .i64 0, .int .i64 0, .int .i64 0, .int .i64 0, .int .u32 0, .int .i64 0], .int .i64 8]) (by simp [results, Tryz.results140, go_sem, q0, q1, q2, q3, q4, q5, q6, q7]) rfl ⟨?_, hC⟩
      rw [HE2.out]; rfl
end Go.Proofs.YthdgehcghklflaaGreatDoor
