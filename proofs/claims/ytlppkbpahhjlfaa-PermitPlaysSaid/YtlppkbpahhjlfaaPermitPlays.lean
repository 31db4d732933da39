/- For every int and every list of calls: PermitPlays returns true, so whatever is given and taken, each answer, and who has a permit, is what the document says, and every call comes back; no condition. -/
import Derived.Test.YtlppkbpahhjlfaaPermitC
import Derived.Test.YtlppkbpahhjlfaaPermitRef
import Derived.Test.YtlppkbpahhjlfaaRecs
import Derived.WalkKit
import Derived.ProofKit
import Derived.OpenShut
import Derived.ChangeOld
namespace Go.Proofs.Ytlppkbpahhjlfaa.permitPlays
open Go.ChangeShapes Go.WideShapes Go.ChangeAt Go.RowKit
set_option linter.unusedVariables false

theorem own : ownKnob Try.prog.godebug = none := by kernel_rfl
theorem laidOut : laidOutB Try.prog = true := by kernel_rfl

/-- What the cells of a call are: Out, T. -/
def Cell1 (j : Nat) (u : Value) : Prop :=
  match j with
  | 0 => ∃ b, u = .bool b
  | 1 => ∃ x, u = .int .i64 x ∧ (Lit.int .i64 x).wf = true
  | _ => True

/-- Who has one, as the document's list of 0 and 1. -/
def ones (bs : List Bool) : List Int := bs.map fun b => (b.toNat : Int)
theorem ones_len (bs : List Bool) : (ones bs).length = bs.length := by simp [ones]
theorem ones_none (n : Nat) : ones (List.replicate n false) = List.replicate n 0 := by simp [ones]
theorem ones_set (bs : List Bool) (t : Nat) (b : Bool) : (ones bs).set t (b.toNat : Int) = ones (bs.set t b) := by simp [ones, List.map_set]
theorem ones_at (bs : List Bool) {t : Nat} (h : t < bs.length) : nth (ones bs) t = ((nthO false bs t).toNat : Int) := by
  simp [ones, nth, nthO, List.getD_eq_getElem?_getD, h]

theorem not_in {w : World} {g n : Nat} {bs : List Bool} {q : Nat} {t : TypeId} {cs : Array Value} (h : Pm w g n bs) (hb : Bk w q t cs) : ¬ InPm g n q := by
  rintro ⟨h1, h2⟩
  obtain ⟨s, r, hc⟩ := h.chs (q - (g + 1)) (by omega)
  rw [show g + 1 + (q - (g + 1)) = q by omega] at hc
  unfold Bk at hb
  rw [hb] at hc
  simp at hc

/-- At each round's head: the permits, and the document's list, say the same. -/
def Rel (w : World) (g n q cap : Nat) (bs : List Bool) (wr : World) : Prop := Pm wr g n bs ∧ Its wr q cap (ones bs) ∧ w.grownBy wr none
theorem more {w a b : World} {g N : Nat} (hg : w.heap.size ≤ g) (h : w.grownBy a none) (k : Within a b (InPm g N)) : w.grownBy b none :=
  ((Within.of_grown (S := fun _ => False) h (by simp)).then_ k (fun i hi => .inr (Nat.le_trans hg (Nat.le_of_lt hi.1)))).grown (by simp)
theorem set_at {bs : List Bool} {t : Nat} (h : t < bs.length) (b : Bool) : nthO false (bs.set t b) t = b := by rw [nthO_set h, if_pos rfl]

set_option maxHeartbeats 4000000 in
set_option maxRecDepth 100000 in
theorem walk (x0 : Int) (a1 : Option Addr) (len cap1 : Nat) (w : World) (w0 : (Lit.int .i64 x0).wf = true) (g1 : Recs w a1 len 2 Cell1) (hm : len ≤ maxLen) :
    Calls Try.prog 3 #[.int .i64 x0, .slice a1 len cap1] w fun e w' => e = .returned (.bool true) ∧ Below w.heap.size w w' := by
  unfold maxLen at hm
  by_cases h100 : 100 < len
  · go_enter Try.func3, Try.ntmps3
    go_wp2_with fail
    refine (lAwake _).mono ?_
    rintro e w2 ⟨rfl, hw2⟩
    go_wp2
    go_ret
    exact ⟨rfl, below_of_grown hw2⟩
  rcases (show x0 < 1 ∨ 64 < x0 ∨ (1 ≤ x0 ∧ x0 ≤ 64) by omega) with hx | hx | ⟨hx1, hx2⟩
  · go_enter Try.func3, Try.ntmps3
    go_wp2_with fail
    refine (pNewBad x0 (.inl hx) _).mono ?_
    rintro e w2 ⟨rfl, rfl⟩
    go_wp2_with fail
    refine (lAwake _).mono ?_
    rintro e w2 ⟨rfl, hw2⟩
    go_wp2
    go_ret
    exact ⟨rfl, below_of_grown hw2⟩
  · have hx1 : ¬ x0 < 1 := by omega
    go_enter Try.func3, Try.ntmps3
    go_wp2_with fail
    refine (pNewBad x0 (.inr hx) _).mono ?_
    rintro e w2 ⟨rfl, rfl⟩
    go_wp2_with fail
    refine (lAwake _).mono ?_
    rintro e w2 ⟨rfl, hw2⟩
    go_wp2
    go_ret
    exact ⟨rfl, below_of_grown hw2⟩
  obtain ⟨n, rfl⟩ := Int.eq_ofNat_of_zero_le (show 0 ≤ x0 by omega)
  have hn1 : 1 ≤ n := by omega
  have hn2 : n ≤ 64 := by omega
  obtain ⟨i0, hi0, hz0, hz1, hz2⟩ := info_parts intinfo
  have hmk := fun W : World => run_make (P := Try.prog) W 28 3 i0 _ Try.underlying28 hi0 hz0 .i64 .i64 n n (by omega) (by omega) (by rw [hz2]; omega) (by omega)
  rw [hz1] at hmk
  clear hi0 hz0 hz1 hz2 hx1 hx2 w0
  go_enter Try.func3, Try.ntmps3
  go_wp2_with fail
  refine (pNew n hn1 hn2 w).mono ?_
  rintro e a1' ⟨g, rfl, h1, hg, hgr⟩
  go_wp2
  have hq0 := Its.made a1' n (by simp only [maxLen]; omega)
  have hp0 := h1.grown (grown_made a1' (.cells (madeCells #[.int .i64 0] n) 3) none)
  have hw0 := grown_then hgr (grown_made a1' (.cells (madeCells #[.int .i64 0] n) 3) none) (.inl rfl)
  clear hmk h1 hgr
  generalize a1'.heap.size = q0 at hq0 ⊢
  generalize a1'.alloc (.cells (madeCells #[.int .i64 0] n) 3) = a2 at hq0 hp0 hw0 ⊢
  go_loopw [7, 53] (fun s i wr => ∃ (k q cap : Nat) (bs : List Bool), k ≤ len ∧ i = .int .i64 k ∧ s = .slice (some ⟨q, 0, none⟩) n cap ∧ Rel w g n q cap bs wr) (fun _ i _ => len - (intOf i).toNat)
  case atStart => exact ⟨0, q0, n, List.replicate n false, Nat.zero_le _, rfl, rfl, hp0, by rw [ones_none]; exact hq0, hw0⟩
  case round =>
    clear hq0 hp0 hw0
    obtain ⟨k, q, cap, bs, hk, rfl, rfl, hp, hi, hw⟩ := hrel
    have hl := hp.len
    have hol : (ones bs).length = n := by rw [ones_len, hl]
    have hcap := hi.caps
    rw [hol] at hcap
    unfold maxLen at hcap
    by_cases hlt : k < len
    · obtain ⟨bb, off, rfl, hcs⟩ := g1.at_ hlt (below_of_grown hw)
      obtain ⟨_, r0, is, rfl⟩ := hcs 0 (by omega)
      obtain ⟨_, r1, T, rfl, hT⟩ := hcs 1 (by omega)
      clear hcs
      rw [Nat.add_zero] at r0
      have hB := Bk.made wr 30 #[.bool is, .int .i64 T]
      have hA := grown_made wr (.cells #[.bool is, .int .i64 T] 30) none
      have HOL := Lib.hid hol
      clear hol
      rcases (show (T < 0 ∨ n ≤ T) ∨ (0 ≤ T ∧ T < n) by omega) with hr | ⟨hr1, hr2⟩
      · cases is with
        | false =>
          have hB0 := hB.cell 0
          have hB1 := hB.cell 1
          simp only [List.getElem?_toArray, List.getElem?_cons_zero, List.getElem?_cons_succ] at hB0 hB1
          go_wp2_with fail
          generalize wr.alloc (.cells #[.bool false, .int .i64 T] 30) = wa at hB hA hB0 hB1 ⊢
          have hpA := hp.grown hA
          have hiA := hi.kept hA (by simp)
          have hwA := grown_then hw hA (.inl rfl)
          clear hp hi hw hA r0 r1
          refine (rSetNo _ n cap T 1 hn2 hr).mono ?_
          rintro e w2 ⟨rfl, rfl⟩
          go_wp2_with fail
          refine (pGiveNo hpA T hr).mono ?_
          rintro e w3 ⟨rfl, rfl⟩
          go_wp2_with fail
          refine (pHasNo hpA T hr).mono ?_
          rintro e w4 ⟨rfl, rfl⟩
          go_wp2
          go_roundw
          case rel => exact ⟨k + 1, q, cap, bs, by omega, by go_num, rfl, hpA, hiA, hwA⟩
          case measure => simp [intOf]; omega
        | true =>
          have hB0 := hB.cell 0
          have hB1 := hB.cell 1
          simp only [List.getElem?_toArray, List.getElem?_cons_zero, List.getElem?_cons_succ] at hB0 hB1
          go_wp2_with fail
          generalize wr.alloc (.cells #[.bool true, .int .i64 T] 30) = wa at hB hA hB0 hB1 ⊢
          have hpA := hp.grown hA
          have hiA := hi.kept hA (by simp)
          have hwA := grown_then hw hA (.inl rfl)
          clear hp hi hw hA r0 r1
          refine (rSetNo _ n cap T 0 hn2 hr).mono ?_
          rintro e w2 ⟨rfl, rfl⟩
          go_wp2_with fail
          refine (pTakeNo hpA T hr).mono ?_
          rintro e w3 ⟨rfl, rfl⟩
          go_wp2_with fail
          refine (pHasNo hpA T hr).mono ?_
          rintro e w4 ⟨rfl, rfl⟩
          go_wp2
          go_roundw
          case rel => exact ⟨k + 1, q, cap, bs, by omega, by go_num, rfl, hpA, hiA, hwA⟩
          case measure => simp [intOf]; omega
      · obtain ⟨t, rfl⟩ := Int.eq_ofNat_of_zero_le hr1
        have htn : t < n := by omega
        have hon := ones_at bs (t := t) (by omega)
        clear hr1 hr2 hT
        obtain c : (is = false ∧ nthO false bs t = false) ∨ (is = false ∧ nthO false bs t = true) ∨ (is = true ∧ nthO false bs t = false) ∨ (is = true ∧ nthO false bs t = true) := by
          cases is <;> cases nthO false bs t <;> simp
        rcases c with ⟨rfl, hnb⟩ | ⟨rfl, hnb⟩ | ⟨rfl, hnb⟩ | ⟨rfl, hnb⟩
        · have hon' : nth (ones bs) t = 0 := by rw [hon, hnb]; rfl
          have HON := Lib.hid hon'
          have HNB := Lib.hid hnb
          clear hon hon' hnb
          have hB0 := hB.cell 0
          have hB1 := hB.cell 1
          simp only [List.getElem?_toArray, List.getElem?_cons_zero, List.getElem?_cons_succ] at hB0 hB1
          go_wp2_with fail
          generalize wr.alloc (.cells #[.bool false, .int .i64 t] 30) = wa at hB hA hB0 hB1 ⊢
          have hpA := hp.grown hA
          have hiA := hi.kept hA (by simp)
          have hwA := grown_then hw hA (.inl rfl)
          have hS := rSet hiA (by rw [HOL.out]; exact hn2) t (by rw [HOL.out]; exact htn) 1
          rw [HOL.out, HON.out] at hS
          clear hp hi hw hA r0 r1
          refine hS.mono ?_
          clear hS
          rintro e w2 ⟨q2, cap2, rfl, hi2, hq2, hg2⟩
          rw [List.length_set, HOL.out]
          have hp2 := hpA.grown hg2
          have hw2 := grown_then hwA hg2 (.inl rfl)
          have hBb := hB.grown hg2 (by simp)
          have hC1 := hBb.cell 1
          have hC0 := hBb.cell 0
          simp only [List.getElem?_toArray, List.getElem?_cons_zero, List.getElem?_cons_succ] at hC0 hC1
          have hi2' : Its w2 q2 cap2 (ones (bs.set t true)) := by rw [← ones_set]; exact hi2
          clear hi2 hpA hiA hwA hg2 hB hB0 hB1 hq2
          go_wp2_with fail
          refine (pGive hp2 t htn).mono ?_
          rintro e w3 ⟨rfl, hp3, hW3⟩
          rw [HNB.out]
          have hi3 : Its w3 q2 cap2 (ones (bs.set t true)) := by
            obtain ⟨cs, hbk, _⟩ := hi2'.bk
            exact hi2'.within hW3 (not_in hp2 hbk)
          have hw3 := more hg hw2 hW3
          have hB3 := hBb.within hW3 (not_in hp2 hBb)
          have hD1 := hB3.cell 1
          simp only [List.getElem?_toArray, List.getElem?_cons_zero, List.getElem?_cons_succ] at hD1
          have hH := pHas hp3 t htn
          rw [set_at (by omega)] at hH
          have HH := Lib.hid hH
          clear hp2 hi2' hw2 hBb hC0 hC1 hW3 hB3 hH
          go_wp2_with fail
          refine HH.out.mono ?_
          rintro e w4 ⟨rfl, rfl⟩
          go_wp2
          go_roundw
          case rel => exact ⟨k + 1, q2, cap2, bs.set t true, by omega, by go_num, rfl, hp3, hi3, hw3⟩
          case measure => simp [intOf]; omega
        · have hon' : nth (ones bs) t = 1 := by rw [hon, hnb]; rfl
          have HON := Lib.hid hon'
          have HNB := Lib.hid hnb
          clear hon hon' hnb
          have hB0 := hB.cell 0
          have hB1 := hB.cell 1
          simp only [List.getElem?_toArray, List.getElem?_cons_zero, List.getElem?_cons_succ] at hB0 hB1
          go_wp2_with fail
          generalize wr.alloc (.cells #[.bool false, .int .i64 t] 30) = wa at hB hA hB0 hB1 ⊢
          have hpA := hp.grown hA
          have hiA := hi.kept hA (by simp)
          have hwA := grown_then hw hA (.inl rfl)
          have hS := rSet hiA (by rw [HOL.out]; exact hn2) t (by rw [HOL.out]; exact htn) 1
          rw [HOL.out, HON.out] at hS
          clear hp hi hw hA r0 r1
          refine hS.mono ?_
          clear hS
          rintro e w2 ⟨q2, cap2, rfl, hi2, hq2, hg2⟩
          rw [List.length_set, HOL.out]
          have hp2 := hpA.grown hg2
          have hw2 := grown_then hwA hg2 (.inl rfl)
          have hBb := hB.grown hg2 (by simp)
          have hC1 := hBb.cell 1
          have hC0 := hBb.cell 0
          simp only [List.getElem?_toArray, List.getElem?_cons_zero, List.getElem?_cons_succ] at hC0 hC1
          have hi2' : Its w2 q2 cap2 (ones (bs.set t true)) := by rw [← ones_set]; exact hi2
          clear hi2 hpA hiA hwA hg2 hB hB0 hB1 hq2
          go_wp2_with fail
          refine (pGive hp2 t htn).mono ?_
          rintro e w3 ⟨rfl, hp3, hW3⟩
          rw [HNB.out]
          have hi3 : Its w3 q2 cap2 (ones (bs.set t true)) := by
            obtain ⟨cs, hbk, _⟩ := hi2'.bk
            exact hi2'.within hW3 (not_in hp2 hbk)
          have hw3 := more hg hw2 hW3
          have hB3 := hBb.within hW3 (not_in hp2 hBb)
          have hD1 := hB3.cell 1
          simp only [List.getElem?_toArray, List.getElem?_cons_zero, List.getElem?_cons_succ] at hD1
          have hH := pHas hp3 t htn
          rw [set_at (by omega)] at hH
          have HH := Lib.hid hH
          clear hp2 hi2' hw2 hBb hC0 hC1 hW3 hB3 hH
          go_wp2_with fail
          refine HH.out.mono ?_
          rintro e w4 ⟨rfl, rfl⟩
          go_wp2
          go_roundw
          case rel => exact ⟨k + 1, q2, cap2, bs.set t true, by omega, by go_num, rfl, hp3, hi3, hw3⟩
          case measure => simp [intOf]; omega
        · have hon' : nth (ones bs) t = 0 := by rw [hon, hnb]; rfl
          have HON := Lib.hid hon'
          have HNB := Lib.hid hnb
          clear hon hon' hnb
          have hB0 := hB.cell 0
          have hB1 := hB.cell 1
          simp only [List.getElem?_toArray, List.getElem?_cons_zero, List.getElem?_cons_succ] at hB0 hB1
          go_wp2_with fail
          generalize wr.alloc (.cells #[.bool true, .int .i64 t] 30) = wa at hB hA hB0 hB1 ⊢
          have hpA := hp.grown hA
          have hiA := hi.kept hA (by simp)
          have hwA := grown_then hw hA (.inl rfl)
          have hS := rSet hiA (by rw [HOL.out]; exact hn2) t (by rw [HOL.out]; exact htn) 0
          rw [HOL.out, HON.out] at hS
          clear hp hi hw hA r0 r1
          refine hS.mono ?_
          clear hS
          rintro e w2 ⟨q2, cap2, rfl, hi2, hq2, hg2⟩
          rw [List.length_set, HOL.out]
          have hp2 := hpA.grown hg2
          have hw2 := grown_then hwA hg2 (.inl rfl)
          have hBb := hB.grown hg2 (by simp)
          have hC1 := hBb.cell 1
          have hC0 := hBb.cell 0
          simp only [List.getElem?_toArray, List.getElem?_cons_zero, List.getElem?_cons_succ] at hC0 hC1
          have hi2' : Its w2 q2 cap2 (ones (bs.set t false)) := by rw [← ones_set]; exact hi2
          clear hi2 hpA hiA hwA hg2 hB hB0 hB1 hq2
          go_wp2_with fail
          refine (pTake hp2 t htn).mono ?_
          rintro e w3 ⟨rfl, hp3, hW3⟩
          rw [HNB.out]
          have hi3 : Its w3 q2 cap2 (ones (bs.set t false)) := by
            obtain ⟨cs, hbk, _⟩ := hi2'.bk
            exact hi2'.within hW3 (not_in hp2 hbk)
          have hw3 := more hg hw2 hW3
          have hB3 := hBb.within hW3 (not_in hp2 hBb)
          have hD1 := hB3.cell 1
          simp only [List.getElem?_toArray, List.getElem?_cons_zero, List.getElem?_cons_succ] at hD1
          have hH := pHas hp3 t htn
          rw [set_at (by omega)] at hH
          have HH := Lib.hid hH
          clear hp2 hi2' hw2 hBb hC0 hC1 hW3 hB3 hH
          go_wp2_with fail
          refine HH.out.mono ?_
          rintro e w4 ⟨rfl, rfl⟩
          go_wp2
          go_roundw
          case rel => exact ⟨k + 1, q2, cap2, bs.set t false, by omega, by go_num, rfl, hp3, hi3, hw3⟩
          case measure => simp [intOf]; omega
        · have hon' : nth (ones bs) t = 1 := by rw [hon, hnb]; rfl
          have HON := Lib.hid hon'
          have HNB := Lib.hid hnb
          clear hon hon' hnb
          have hB0 := hB.cell 0
          have hB1 := hB.cell 1
          simp only [List.getElem?_toArray, List.getElem?_cons_zero, List.getElem?_cons_succ] at hB0 hB1
          go_wp2_with fail
          generalize wr.alloc (.cells #[.bool true, .int .i64 t] 30) = wa at hB hA hB0 hB1 ⊢
          have hpA := hp.grown hA
          have hiA := hi.kept hA (by simp)
          have hwA := grown_then hw hA (.inl rfl)
          have hS := rSet hiA (by rw [HOL.out]; exact hn2) t (by rw [HOL.out]; exact htn) 0
          rw [HOL.out, HON.out] at hS
          clear hp hi hw hA r0 r1
          refine hS.mono ?_
          clear hS
          rintro e w2 ⟨q2, cap2, rfl, hi2, hq2, hg2⟩
          rw [List.length_set, HOL.out]
          have hp2 := hpA.grown hg2
          have hw2 := grown_then hwA hg2 (.inl rfl)
          have hBb := hB.grown hg2 (by simp)
          have hC1 := hBb.cell 1
          have hC0 := hBb.cell 0
          simp only [List.getElem?_toArray, List.getElem?_cons_zero, List.getElem?_cons_succ] at hC0 hC1
          have hi2' : Its w2 q2 cap2 (ones (bs.set t false)) := by rw [← ones_set]; exact hi2
          clear hi2 hpA hiA hwA hg2 hB hB0 hB1 hq2
          go_wp2_with fail
          refine (pTake hp2 t htn).mono ?_
          rintro e w3 ⟨rfl, hp3, hW3⟩
          rw [HNB.out]
          have hi3 : Its w3 q2 cap2 (ones (bs.set t false)) := by
            obtain ⟨cs, hbk, _⟩ := hi2'.bk
            exact hi2'.within hW3 (not_in hp2 hbk)
          have hw3 := more hg hw2 hW3
          have hB3 := hBb.within hW3 (not_in hp2 hBb)
          have hD1 := hB3.cell 1
          simp only [List.getElem?_toArray, List.getElem?_cons_zero, List.getElem?_cons_succ] at hD1
          have hH := pHas hp3 t htn
          rw [set_at (by omega)] at hH
          have HH := Lib.hid hH
          clear hp2 hi2' hw2 hBb hC0 hC1 hW3 hB3 hH
          go_wp2_with fail
          refine HH.out.mono ?_
          rintro e w4 ⟨rfl, rfl⟩
          go_wp2
          go_roundw
          case rel => exact ⟨k + 1, q2, cap2, bs.set t false, by omega, by go_num, rfl, hp3, hi3, hw3⟩
          case measure => simp [intOf]; omega
    · have HOL := Lib.hid hol
      clear hol
      go_wp2
      go_loopw [16, 119] (fun m i wr' => ∃ j : Nat, j ≤ n ∧ i = .int .i64 j ∧ m = .int .i64 (cntTo bs j) ∧ wr' = wr) (fun _ i _ => n - (intOf i).toNat)
      case atStart => exact ⟨0, Nat.zero_le _, rfl, by rw [cntTo_0]; rfl, rfl⟩
      case round =>
        obtain ⟨j, hj, rfl, rfl, rfl⟩ := hrel
        have hle := cntTo_le bs j
        rw [hl] at hle
        by_cases hjn : j < n
        · have hc := hi.at_ (i := j) (by rw [HOL.out]; exact hjn)
          rw [ones_at bs (by omega)] at hc
          have hs := cntTo_succ bs (k := j) (by omega)
          have hH := pHas hp j hjn
          cases hb : nthO false bs j
          all_goals
            rw [hb] at hc hs hH
            simp only [Bool.toNat_true, Bool.toNat_false, Nat.add_zero] at hc hs
            have HH := Lib.hid hH
            have HS := Lib.hid hs
            clear hH hs hb
            go_wp2_with fail
            refine HH.out.mono ?_
            rintro e w4 ⟨rfl, rfl⟩
            go_wp2
            go_roundw
            case rel => exact ⟨j + 1, by omega, by go_num, by first | (rw [HS.out]; done) | (rw [HS.out]; go_num), trivial⟩
            case measure => simp [intOf]; omega
        · obtain rfl : j = n := by omega
          have hall := cntTo_all bs
          rw [hl] at hall
          go_wp2_with fail
          refine (pLen hp).mono ?_
          rintro e w4 ⟨rfl, rfl⟩
          rw [← hall]
          go_wp2_with fail
          refine (lAwake _).mono ?_
          rintro e w5 ⟨rfl, hw5⟩
          go_wp2
          go_ret
          exact ⟨rfl, below_of_grown (grown_then hw hw5 (.inl rfl))⟩

set_option maxRecDepth 100000 in
theorem lifted (os : Os) (started : os.Started) (H : Type) (enc : TypeId × Value → H) :
    ReturnsInHanded {} Try.checked os 3 .any (Rows.permitPlaysSpec.pre6 enc Try.prog Try.f3 Rows.permitPlaysRow.domain false) (Rows.permitPlaysSpec.post enc Try.prog Try.f3 false true false false) := by
  refine returnsInHanded_of_change (C := Try.checked) own started (by kernel_rfl) Try.func3
    (ChangeSpec.witness6 (enc := enc) (C := Try.checked) false ⟨#[], #[.int .i64 0, .slice none 0 0], []⟩ 8 (by kernel_rfl) (by kernel_rfl) (by kernel_rfl) (by kernel_rfl)) ?_
  intro W base args ds gs before hval0 hW hcnd _
  have hval : ∀ (j : Nat) t v, Try.f3.params[j]? = some t → args[j]? = some v → Value.okWide Try.prog W .any base t v := hval0
  have hW' := hW
  obtain ⟨p, q, hA0, hV, rfl, hfz, hnd⟩ := hW
  have hA : DataW.TrodAll enc Try.prog W 0 (fun _ => true) true Try.f3.params.toList args.toList ds p := hA0
  rw [Try.params3] at hA hval
  obtain ⟨v0, vs0, d0, ds0, p0, q0, hargs, rfl, rfl, h0, r0⟩ := trodAll_cons hA
  obtain ⟨v1, vs1, d1, ds1, p1, q1, rfl, rfl, rfl, h1, r1⟩ := trodAll_cons r0
  obtain ⟨rfl, rfl, rfl⟩ := trodAll_nil r1
  obtain rfl : args = #[v0, v1] := by cases args; simp_all
  obtain ⟨rfl, rfl⟩ := trodVars_none hV
  obtain ⟨x0, rfl, rfl, rfl, w0⟩ := open_int Try.underlying3 (hval 0 3 v0 rfl rfl) h0
  obtain ⟨a1, len1, cap1, rfl⟩ := okWide_slice Try.underlying22 (hval 1 22 v1 rfl rfl)
  have k1 := h1
  have lt1 : ∀ x ∈ p1, x.block < W.heap.size := by obtain ⟨m, hm⟩ := k1; exact DataW.trod_lt m _ _ _ hm
  obtain ⟨hb1, g1⟩ : len1 ≤ maxLen ∧ Recs W a1 len1 2 Cell1 := by
    obtain ⟨fuel, hf⟩ := h1
    obtain ⟨hle, hr⟩ := open_recs Try.underlying22 Try.underlying30 (by kernel_rfl) (by kernel_rfl) (by decide) (by simpa [Value.cells] using hf)
    refine ⟨hle, fun h0 => ?_⟩
    obtain ⟨b, off, e, hlt, hc⟩ := hr h0
    refine ⟨b, off, e, hlt, fun i hi j hj => ?_⟩
    obtain ⟨u, hu, hw⟩ := hc i hi j hj
    refine ⟨u, hu, ?_⟩
    match j, hj with
    | 0, _ => obtain ⟨n, y, hy⟩ := hw _ rfl; obtain ⟨x, e, _⟩ := DataW.trod_bool Try.underlying4 hy; simp at e; subst e; exact ⟨x, rfl⟩
    | 1, _ => obtain ⟨n, y, hy⟩ := hw _ rfl; obtain ⟨x, e, _, wx⟩ := DataW.trod_int Try.underlying3 hy; simp at e; subst e; exact ⟨x, rfl, wx⟩
  clear hA0 hval0
  refine (walk x0 a1 len1 cap1 W w0 g1 hb1).mono fun e W' ⟨he, bel⟩ => ?_
  subst he
  exact ⟨_, rfl, _, _, _, [], _, [], hW', trodAll_mk1 (shut_bool Try.underlying4 _), (trodAll_cons_mk (shut_int Try.underlying3 w0) (trodAll_cons_mk (Below.trod laidOut (by kernel_rfl) (of_decide_eq_true (by kernel_rfl)) k1 bel lt1) trodAll_mk0)), rfl, bel.frame _, fun h => by cases h⟩

theorem over : Rows.permitPlaysRow.holds Try.pinned (OpenSpec.ofChange Rows.permitPlaysSpec) :=
  OpenClaim.holds_of_wide 3 Try.f3 rfl rfl rfl rfl rfl rfl rfl ⟨rfl, rfl, rfl, rfl, rfl⟩ rfl rfl rfl rfl rfl (by kernel_rfl) Try.func3 (by kernel_rfl)
    (of_decide_eq_true (by kernel_rfl)) (by unfold Func.isWrapper; first | (rw [if_pos (by decide +kernel)]; kernel_rfl) | (rw [if_neg (by decide +kernel)]; exact ⟨rfl, rfl⟩))
    (fun os started H enc _ => lifted os started H enc)

/-- The statement. -/
theorem proved : Rows.PermitPlaysSaid := over
#print axioms proved
end Go.Proofs.Ytlppkbpahhjlfaa.permitPlays
