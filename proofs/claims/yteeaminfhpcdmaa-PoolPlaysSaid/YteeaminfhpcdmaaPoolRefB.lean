/- The document's own pool: Is, Many, Take. -/
import Derived.Test.YteeaminfhpcdmaaPoolRef
namespace Go.Proofs.Yteeaminfhpcdmaa
open Go.ChangeShapes Go.WideShapes Go.ChangeAt Go.RowKit
section
variable {w w' : World} {x n each N : Nat} {R : RM} {free : Nat → List Nat} {gen out : List Int}

theorem rfIs (h : Rf w x n each R free gen out) (hlG : gen.length = N) (hlO : out.length = N) (hN : N ≤ 512) (hg : ∀ q, 0 ≤ nth gen q ∧ nth gen q < 262144) (ho : ∀ q, nth out q = 0 ∨ nth out q = 1) (y : Int) (y0 : 0 ≤ y) (y1 : y < 4294967296) :
    Calls Try.prog 11 #[.pointer (some ⟨x, 0, none⟩), .int .u32 y] w fun e w' => e = .returned (.bool (isO N gen out y)) ∧ w = w' := by
  have c3 := h.c3
  obtain ⟨a, cap, e, h1, h2, h3⟩ := h.ovIs
  rw [hlO] at e h1 h3
  rw [e] at c3
  clear e
  by_cases hA : y % 4096 < 1
  · have e : isO N gen out y = false := by unfold isO; rw [decide_eq_false]; omega
    rw [e]
    clear e h3
    go_enter Try.func11, Try.ntmps11
    go_wp2_with fail
    refine (rIndex y y0 y1 _).mono ?_
    rintro e w' ⟨rfl, rfl⟩
    go_wp2
    go_ret
    exact ⟨rfl, rfl⟩
  · have hA' : 1 ≤ y % 4096 := by omega
    clear hA
    by_cases hB : (N : Int) < y % 4096
    · have e : isO N gen out y = false := by unfold isO; rw [decide_eq_false]; omega
      rw [e]
      clear e h3
      go_enter Try.func11, Try.ntmps11
      go_wp2_with fail
      refine (rIndex y y0 y1 _).mono ?_
      rintro e w' ⟨rfl, rfl⟩
      go_wp2
      go_ret
      exact ⟨rfl, rfl⟩
    · obtain ⟨q, hq⟩ := Int.eq_ofNat_of_zero_le (show 0 ≤ y % 4096 - 1 by omega)
      have hqN : q < N := by omega
      have eI : isO N gen out y = decide (nth out q = 1 ∧ hdl gen q = y) := by
        unfold isO; rw [hq, Int.toNat_natCast, Bool.eq_iff_iff]; simp; omega
      rw [eI]
      have HQ := Lib.hid hq
      clear eI hq
      obtain ⟨g, rfl, _, hf, hc⟩ := h3 (by omega)
      have hcq := hc q hqN
      have hI : Calls Try.prog 16 #[.int .u32 y] w fun e w' => e = .returned (.int .i64 ((q : Int) + 1)) ∧ w = w' := by
        have := rIndex y y0 y1 w
        rw [show y % 4096 = (q : Int) + 1 by have := HQ.out; omega] at this
        exact this
      have b1 : (q : Int) < N := by omega
      have b2 : (q : Int) + 1 ≤ N := by omega
      clear hc h3 hf hA' hB
      rcases ho q with h0 | h0
      · rw [h0] at hcq
        have e : decide (nth out q = 1 ∧ hdl gen q = y) = false := by rw [decide_eq_false]; omega
        rw [e]
        clear e h0
        go_enter Try.func11, Try.ntmps11
        go_wp2_with fail
        refine hI.mono ?_
        clear hI
        rintro e w' ⟨rfl, rfl⟩
        go_wp2
        go_ret
        exact ⟨rfl, rfl⟩
      · rw [h0] at hcq
        have e : decide (nth out q = 1 ∧ hdl gen q = y) = (hdl gen q == y) := by rw [Bool.eq_iff_iff]; simp [h0]
        rw [e]
        clear e h0
        have hH := rfHandle h (by omega) (q := q) (by omega) (hg q)
        go_enter Try.func11, Try.ntmps11
        go_wp2_with fail
        refine hI.mono ?_
        clear hI
        rintro e w' ⟨rfl, rfl⟩
        go_wp2_with fail
        refine hH.mono ?_
        clear hH
        rintro e w' ⟨rfl, rfl⟩
        go_wp2
        go_ret
        exact ⟨rfl, rfl⟩

theorem rfMany (h : Rf w x n each R free gen out) (h64 : n ≤ 64) (h8 : each ≤ 8) (t : Nat) (ht : t < n) (hl : (free t).length ≤ each) :
    Calls Try.prog 20 #[.pointer (some ⟨x, 0, none⟩), .int .i64 t] w fun e w' => e = .returned (.int .i64 ((each - (free t).length : Nat) : Int)) ∧ ∃ m, w' = w.drewN m := by
  have c0 := h.c0
  have c1 := h.c1
  obtain ⟨g, cap, e, h1, h2, hf, hc⟩ := h.fvIs (by omega)
  rw [e] at c1
  have hct := hc t ht
  clear hc e
  have hlen : (ones (free t)).length = (free t).length := by simp [ones]
  obtain ⟨A, B, hv⟩ : ∃ A B, R.vs t = .slice A (free t).length B := by
    rcases h.frees t ht with ⟨e1, e2⟩ | ⟨g', off, cap', cs, e1, _⟩
    · have : (free t).length = 0 := by rw [← hlen, e2]; rfl
      rw [this]; exact ⟨_, _, e1⟩
    · rw [hlen] at e1; exact ⟨_, _, e1⟩
  rw [hv] at hct
  clear hlen hv
  go_enter Try.func20, Try.ntmps20
  go_wp2
  go_quiet (fail)
  go_wp2
  go_ret
  exact ⟨ret_int (by omega), _, rfl⟩

theorem rfManyNo (h : Rf w x n each R free gen out) (hn : 1 ≤ n) (t : Int) (ht : t < 0 ∨ n ≤ t) :
    Calls Try.prog 20 #[.pointer (some ⟨x, 0, none⟩), .int .i64 t] w fun e w' => e = .returned (.int .i64 0) ∧ w = w' := by
  have c1 := h.c1
  obtain ⟨g, cap, e, h1, h2, hf, hc⟩ := h.fvIs (by omega)
  rw [e] at c1
  clear hc e
  rcases (show t < 0 ∨ (¬ t < 0 ∧ (n : Int) ≤ t) by omega) with ht | ⟨h0, ht⟩
  all_goals
    go_enter Try.func20, Try.ntmps20
    go_wp2
    go_ret
    exact ⟨rfl, rfl⟩

theorem rfTakeNo (h : Rf w x n each R free gen out) (hn : 1 ≤ n) (t : Int) (ht : t < 0 ∨ n ≤ t) :
    Calls Try.prog 15 #[.pointer (some ⟨x, 0, none⟩), .int .i64 t] w fun e w' => e = .returned (.tuple #[.int .u32 0, .int .i64 4]) ∧ w = w' := by
  have c1 := h.c1
  obtain ⟨g, cap, e, h1, h2, hf, hc⟩ := h.fvIs (by omega)
  rw [e] at c1
  clear hc e
  rcases (show t < 0 ∨ (¬ t < 0 ∧ (n : Int) ≤ t) by omega) with ht | ⟨h0, ht⟩
  all_goals
    go_enter Try.func15, Try.ntmps15
    go_wp2
    go_ret2
    exact ⟨rfl, rfl⟩

theorem rfTakeNone (h : Rf w x n each R free gen out) (h64 : n ≤ 64) (t : Nat) (ht : t < n) (he : free t = []) :
    Calls Try.prog 15 #[.pointer (some ⟨x, 0, none⟩), .int .i64 t] w fun e w' => e = .returned (.tuple #[.int .u32 0, .int .i64 0]) ∧ w = w' := by
  have c1 := h.c1
  obtain ⟨g, cap, e, h1, h2, hf, hc⟩ := h.fvIs (by omega)
  rw [e] at c1
  have hct := hc t ht
  clear hc e
  obtain ⟨A, B, hv⟩ : ∃ A B, R.vs t = .slice A 0 B := by
    have hF := h.frees t ht
    rw [he] at hF
    rcases hF with ⟨e1, e2⟩ | ⟨g', off, cap', cs, e1, _⟩
    · exact ⟨_, _, e1⟩
    · exact ⟨_, _, e1⟩
  rw [hv] at hct
  go_enter Try.func15, Try.ntmps15
  go_wp2
  go_ret2
  exact ⟨rfl, rfl⟩
end
end Go.Proofs.Yteeaminfhpcdmaa
