/- Layer 13's program: the lock in memory; move, isThread, Owner, State, isNext (and slices.Index): none of them changes anything. -/
import Derived.Test.YtipekdeghelpaaaFfM
import Derived.Test.YtipekdeghelpaaaEnL
import Derived.Test.YtipekdeghelpaaaInts
namespace Go.Proofs.Ytipekdeghelpaaa
open Go.ChangeShapes Go.WideShapes Go.ChangeAt Go.RowKit
set_option linter.unusedVariables false

/-- The lock at block p: its states lie at block s, its queue is v. -/
structure Ffk (w : World) (p s : Nat) (v : Value) (st q : List Int) (now : Int) : Prop where
  bk : Bk w p 48 #[.slice (some ⟨s, 0, none⟩) st.length st.length, v, .int .i64 now]
  its : Its w s st.length st
  lst : Lst .i64 3 w v q
  apart : v.ownBlock ≠ some s
/-- What its calls may change. -/
def InFf (p s : Nat) (v : Value) (b : Nat) : Prop := b = p ∨ b = s ∨ v.ownBlock = some b
section
variable {w w' : World} {p s : Nat} {v : Value} {st q : List Int} {now : Int}
theorem Ffk.ps (h : Ffk w p s v st q now) : p ≠ s := by
  obtain ⟨cs, hb, _⟩ := h.its.bk
  exact Bk.unlike h.bk hb (by decide)
theorem Ffk.pv (h : Ffk w p s v st q now) : v.ownBlock ≠ some p := by
  intro e
  obtain ⟨cs, hb⟩ := h.lst.bk e
  exact Bk.unlike h.bk hb (by decide) rfl
theorem Ffk.within {S : Nat → Prop} (h : Ffk w p s v st q now) (k : Within w w' S) (hn : ∀ b, InFf p s v b → ¬ S b) : Ffk w' p s v st q now :=
  ⟨h.bk.within k (hn p (.inl rfl)), h.its.within k (hn s (.inr (.inl rfl))), h.lst.within k (fun g e => hn g (.inr (.inr e))), h.apart⟩
theorem Ffk.below (h : Ffk w p s v st q now) (k : Below w.heap.size w w') : Ffk w' p s v st q now := h.within (within_of_below k) (fun _ _ h => h)
theorem Ffk.cells (h : Ffk w p s v st q now) : w.cell? ⟨p, 0, none⟩ = some (.slice (some ⟨s, 0, none⟩) st.length st.length) ∧ w.cell? ⟨p, 1, none⟩ = some v ∧ w.cell? ⟨p, 2, none⟩ = some (.int .i64 now) := ⟨h.bk.cell 0, h.bk.cell 1, h.bk.cell 2⟩
theorem Ffk.in_lt (h : Ffk w p s v st q now) : ∀ b, InFf p s v b → b < w.heap.size := by
  rintro b (rfl | rfl | e)
  · exact h.bk.lt
  · exact h.its.lt
  · exact h.lst.lt e
end

theorem fMove (k : Int) (w : World) : Calls Try.prog 27 #[.int .i64 k] w fun e w' => e = .returned (.tuple #[.int .i64 (mvF k), .int .i64 (mvT k), .bool (mvB k)]) ∧ w' = w := by
  by_cases h : k = 1 ∨ k = 2 ∨ k = 3 ∨ k = 4 ∨ k = 5 ∨ k = 6 ∨ k = 7 ∨ k = 8 ∨ k = 9 ∨ k = 10
  · rcases h with rfl | rfl | rfl | rfl | rfl | rfl | rfl | rfl | rfl | rfl <;> (
      go_enter Try.func27, Try.ntmps27
      go_wp2
      go_ret3
      exact ⟨rfl, rfl⟩)
  · have HE : Hid (mvF k = 0 ∧ mvT k = 0 ∧ mvB k = false) := Lib.hid (by
      refine ⟨?_, ?_, ?_⟩
      · unfold mvF; repeat' split
        all_goals first | rfl | omega
      · unfold mvT; repeat' split
        all_goals first | rfl | omega
      · unfold mvB
        by_cases h1 : 1 ≤ k
        · have : ¬ k ≤ 10 := by omega
          simp [this]
        · simp [h1])
    have e1 : (k == 1) = false := by simp; omega
    have e2 : (k == 2) = false := by simp; omega
    have e3 : (k == 3) = false := by simp; omega
    have e4 : (k == 4) = false := by simp; omega
    have e5 : (k == 5) = false := by simp; omega
    have e6 : (k == 6) = false := by simp; omega
    have e7 : (k == 7) = false := by simp; omega
    have e8 : (k == 8) = false := by simp; omega
    have e9 : (k == 9) = false := by simp; omega
    have e10 : (k == 10) = false := by simp; omega
    clear h
    generalize mvF k = a at *
    generalize mvT k = b at *
    generalize mvB k = c at *
    go_enter Try.func27, Try.ntmps27
    go_wp2
    go_ret3
    obtain ⟨rfl, rfl, rfl⟩ := HE.out
    exact ⟨rfl, rfl⟩

section
variable {w : World} {p s : Nat} {v : Value} {st q : List Int} {now : Int}
theorem fThread (h : Ffk w p s v st q now) (t : Int) : Calls Try.prog 26 #[.pointer (some ⟨p, 0, none⟩), .int .i64 t] w fun e w' => e = .returned (.bool (decide (0 ≤ t ∧ t < (st.length : Int)))) ∧ w' = w := by
  obtain ⟨c0, _, _⟩ := h.cells
  generalize st.length = n at *
  by_cases h0 : 0 ≤ t
  · by_cases h1 : t < (n : Int)
    · have e : decide (0 ≤ t ∧ t < (n : Int)) = true := by simp; omega
      have d0 : decide (t ≥ 0) = true := by simp; omega
      have d1 : decide (t < (n : Int)) = true := by simp; omega
      rw [e]
      clear e h
      go_enter Try.func26, Try.ntmps26
      go_wp2
      go_ret
      exact ⟨rfl, rfl⟩
    · have e : decide (0 ≤ t ∧ t < (n : Int)) = false := by simp; omega
      have d0 : decide (t ≥ 0) = true := by simp; omega
      have d1 : decide (t < (n : Int)) = false := by simp; omega
      rw [e]
      clear e h h1
      go_enter Try.func26, Try.ntmps26
      go_wp2
      go_ret
      exact ⟨rfl, rfl⟩
  · have e : decide (0 ≤ t ∧ t < (n : Int)) = false := by simp; omega
    have d0 : decide (t ≥ 0) = false := by simp; omega
    rw [e]
    clear e h h0
    go_enter Try.func26, Try.ntmps26
    go_wp2
    go_ret
    exact ⟨rfl, rfl⟩

/-- What Owner answers. -/
def ownV (st : List Int) : Value := match ownF st with
  | some t => .tuple #[.int .i64 (t : Nat), .bool true]
  | none => .tuple #[.int .i64 0, .bool false]
theorem ownV_none {st : List Int} (h : ownF st = none) : ownV st = .tuple #[.int .i64 0, .bool false] := by unfold ownV; rw [h]
theorem ownV_some {st : List Int} {t : Nat} (h : ownF st = some t) : ownV st = .tuple #[.int .i64 (t : Nat), .bool true] := by unfold ownV; rw [h]

theorem fOwner (h : Ffk w p s v st q now) : Calls Try.prog 17 #[.pointer (some ⟨p, 0, none⟩)] w fun e w' => e = .returned (ownV st) ∧ w' = w := by
  obtain ⟨c0, _, _⟩ := h.cells
  have HA := Lib.hid (fun i (hi : i < st.length) => h.its.at_ hi)
  have HN : Hid ((∀ j, j < st.length → ownS (nth st j) = false) → ownV st = .tuple #[.int .i64 0, .bool false]) := Lib.hid fun h => ownV_none (ownF_none h)
  have HS : Hid (∀ k, k < st.length → ownS (nth st k) = true → (∀ j, j < k → ownS (nth st j) = false) → ownV st = .tuple #[.int .i64 (k : Nat), .bool true]) := Lib.hid fun k h1 h2 h3 => ownV_some (ownF_some h1 h2 h3)
  have hn := h.its.caps.2
  simp only [maxLen] at hn
  generalize ownV st = res at *
  clear h
  go_enter Try.func17, Try.ntmps17
  go_wp2
  go_loopw [11] (fun x wr => ∃ k : Nat, x = .int .i64 k ∧ k ≤ st.length ∧ wr = w ∧ Hid (∀ j, j < k → ownS (nth st j) = false)) (fun x _ => st.length - (intOf x).toNat)
  case atStart => exact ⟨0, rfl, Nat.zero_le _, rfl, Lib.hid (fun j h => by omega)⟩
  case round =>
    obtain ⟨k, rfl, hk, rfl, HB⟩ := hrel
    by_cases hlt : k < st.length
    · have hki : (k : Int) < st.length := by omega
      have ca := HA.out k hlt
      have HR := Lib.hid (HS.out k hlt)
      have HB2 : Hid (ownS (nth st k) = false → ∀ j, j < k + 1 → ownS (nth st j) = false) := Lib.hid (fun e j h => by
        by_cases hj : j = k
        · subst hj; exact e
        · exact HB.out j (by omega))
      generalize nth st k = y at *
      by_cases hy : y = 3 ∨ y = 4 ∨ y = 6
      · have HR2 := Lib.hid (HR.out (by rcases hy with rfl | rfl | rfl <;> decide) HB.out)
        clear HB HB2 HR HS HN
        rcases hy with rfl | rfl | rfl <;> (
          go_wp2
          go_ret2
          exact ⟨by rw [HR2.out]; rfl, rfl⟩)
      · have e3 : (y == 3) = false := by simp; omega
        have e4 : (y == 4) = false := by simp; omega
        have e6 : (y == 6) = false := by simp; omega
        have HB3 := Lib.hid (HB2.out (by unfold ownS; simp; omega))
        clear HB HB2 HR hy
        go_wp2
        go_roundw
        case rel => exact ⟨k + 1, by go_num, by omega, trivial, HB3⟩
        case measure => simp [intOf]; omega
    · obtain rfl : k = st.length := by omega
      have HR := Lib.hid (HN.out HB.out)
      clear HB HS HN
      go_wp2
      go_ret2
      exact ⟨by rw [HR.out]; rfl, rfl⟩

/-- What State answers. -/
def stateI (st : List Int) (t : Int) : Int := if 0 ≤ t ∧ t < (st.length : Int) then nth st t.toNat else 0
theorem fState (h : Ffk w p s v st q now) (t : Int) : Calls Try.prog 19 #[.pointer (some ⟨p, 0, none⟩), .int .i64 t] w fun e w' => e = .returned (.int .i64 (stateI st t)) ∧ w' = w := by
  have HT := Lib.hid (fThread h t)
  obtain ⟨c0, _, _⟩ := h.cells
  by_cases ht : 0 ≤ t ∧ t < (st.length : Int)
  · rw [decide_eq_true ht] at HT
    have HE : Hid (stateI st t = nth st t.toNat) := Lib.hid (by unfold stateI; rw [if_pos ht])
    obtain ⟨k, rfl⟩ : ∃ k : Nat, t = (k : Int) := ⟨t.toNat, by omega⟩
    have hk : k < st.length := by omega
    have ca := h.its.at_ hk
    rw [Int.toNat_natCast] at HE
    generalize nth st k = y at *
    obtain ⟨h0, h1⟩ := ht
    clear h hk
    go_enter Try.func19, Try.ntmps19
    go_wp2_with fail
    refine HT.out.mono ?_
    rintro e w' ⟨rfl, rfl⟩
    go_wp2
    go_ret
    exact ⟨by rw [HE.out]; rfl, rfl⟩
  · rw [decide_eq_false ht] at HT
    have HE : Hid (stateI st t = 0) := Lib.hid (by unfold stateI; rw [if_neg ht])
    clear h ht
    go_enter Try.func19, Try.ntmps19
    go_wp2_with fail
    refine HT.out.mono ?_
    rintro e w' ⟨rfl, rfl⟩
    go_wp2
    go_ret
    exact ⟨by rw [HE.out]; rfl, rfl⟩
end

/-- slices.Index, of a slice of the call's own. -/
theorem fIndex {w : World} {v : Value} {q : List Int} (h : Lst .i64 3 w v q) (t : Int) : Calls Try.prog 30 #[v, .int .i64 t] w fun e w' => e = .returned (.int .i64 (idxI q t)) ∧ w' = w := by
  obtain ⟨a, cap, rfl, hc1, hc2, hq⟩ := h.is
  have hn : q.length ≤ maxLen := Nat.le_trans hc1 hc2
  simp only [maxLen] at hn
  have HA : Hid (∀ k, k < q.length → ∃ g, a = some ⟨g, 0, none⟩ ∧ w.cell? ⟨g, k, none⟩ = some (.int .i64 (nth q k))) := Lib.hid (fun k hk => by
    obtain ⟨g, e, _, _, hc⟩ := hq (by omega)
    exact ⟨g, e, by rw [hc k hk]⟩)
  have HN : Hid ((∀ j, j < q.length → nth q j ≠ t) → idxI q t = -1) := Lib.hid idxI_none
  have HS : Hid (∀ k, k < q.length → nth q k = t → (∀ j, j < k → nth q j ≠ t) → idxI q t = (k : Int)) := Lib.hid fun k h1 h2 h3 => idxI_some h1 h2 h3
  generalize idxI q t = res at *
  clear h hq
  go_enter Try.func30, Try.ntmps30
  go_wp2
  go_loopw [8] (fun x wr => ∃ k : Nat, x = .int .i64 k ∧ k ≤ q.length ∧ wr = w ∧ Hid (∀ j, j < k → nth q j ≠ t)) (fun x _ => q.length - (intOf x).toNat)
  case atStart => exact ⟨0, rfl, Nat.zero_le _, rfl, Lib.hid (fun j h => by omega)⟩
  case round =>
    obtain ⟨k, rfl, hk, rfl, HB⟩ := hrel
    by_cases hlt : k < q.length
    · have hki : (k : Int) < q.length := by omega
      obtain ⟨g, rfl, ca⟩ := HA.out k hlt
      have HR := Lib.hid (HS.out k hlt)
      have HB2 : Hid (nth q k ≠ t → ∀ j, j < k + 1 → nth q j ≠ t) := Lib.hid (fun e j h => by
        by_cases hj : j = k
        · subst hj; exact e
        · exact HB.out j (by omega))
      generalize nth q k = y at *
      by_cases hy : t = y
      · have HR2 := Lib.hid (HR.out hy.symm HB.out)
        have e1 : (t == y) = true := by simpa using hy
        clear HB HB2 HR HS HN hy
        go_wp2
        go_ret
        exact ⟨by rw [HR2.out]; rfl, rfl⟩
      · have e1 : (t == y) = false := by simpa using hy
        have HB3 := Lib.hid (HB2.out (fun e => hy e.symm))
        clear HB HB2 HR hy
        go_wp2
        go_roundw
        case rel => exact ⟨k + 1, by go_num, by omega, trivial, HB3⟩
        case measure => simp [intOf]; omega
    · obtain rfl : k = q.length := by omega
      have HR := Lib.hid (HN.out HB.out)
      clear HB HS HN
      go_wp2
      go_ret
      exact ⟨by rw [HR.out]; rfl, rfl⟩

theorem fNext {w : World} {p s : Nat} {v : Value} {st q : List Int} {now : Int} (h : Ffk w p s v st q now) (t : Int) : Calls Try.prog 28 #[.pointer (some ⟨p, 0, none⟩), .int .i64 t] w fun e w' => e = .returned (.bool (nextB st q t)) ∧ w' = w := by
  have HO := Lib.hid (fOwner h)
  have HI := Lib.hid (fIndex h.lst t)
  obtain ⟨_, c1, _⟩ := h.cells
  cases ho : ownF st with
  | some k =>
    rw [ownV_some ho] at HO
    have HE : Hid (nextB st q t = false) := Lib.hid (by unfold nextB; rw [ho]; rfl)
    clear h ho HI
    generalize nextB st q t = res at *
    go_enter Try.func28, Try.ntmps28
    go_wp2_with fail
    refine HO.out.mono ?_
    rintro e w' ⟨rfl, rfl⟩
    go_wp2
    go_ret
    exact ⟨by rw [HE.out]; rfl, rfl⟩
  | none =>
    rw [ownV_none ho] at HO
    have HE : Hid (nextB st q t = decide (idxI q t = 0)) := Lib.hid (by
      unfold nextB; rw [ho]
      simp only [Option.isNone_none, Bool.true_and]
      exact decide_eq_decide.2 idxI_zero.symm)
    clear h ho
    generalize nextB st q t = res at *
    generalize idxI q t = i at *
    by_cases hi : i = 0
    · subst hi
      go_enter Try.func28, Try.ntmps28
      go_wp2_with fail
      refine HO.out.mono ?_
      rintro e w' ⟨rfl, rfl⟩
      go_wp2_with fail
      refine HI.out.mono ?_
      rintro e w' ⟨rfl, rfl⟩
      go_wp2
      go_ret
      exact ⟨by rw [HE.out]; rfl, rfl⟩
    · have e1 : (i == 0) = false := by simpa using hi
      have HE2 : Hid (res = false) := Lib.hid (by rw [HE.out]; simpa using hi)
      clear HE hi
      go_enter Try.func28, Try.ntmps28
      go_wp2_with fail
      refine HO.out.mono ?_
      rintro e w' ⟨rfl, rfl⟩
      go_wp2_with fail
      refine HI.out.mono ?_
      rintro e w' ⟨rfl, rfl⟩
      go_wp2
      go_ret
      exact ⟨by rw [HE2.out]; rfl, rfl⟩
end Go.Proofs.Ytipekdeghelpaaa
