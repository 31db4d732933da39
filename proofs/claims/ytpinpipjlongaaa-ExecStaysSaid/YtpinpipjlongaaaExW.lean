/- A spec that came in by value, opened. -/
import Derived.ProofKit
import Derived.OpenShut
import Derived.Lib.SmallJoins
import Derived.Test.YtpinpipjlongaaaCoreW
import Derived.Test.YtpinpipjlongaaaExL
namespace Go.Proofs.Ytpinpipjlongaaa
set_option maxRecDepth 100000
open Go.Joins Go.ChangeShapes Go.WideShapes Go.ChangeAt Go.RowKit Go.Deep
set_option linter.unusedVariables false

section
variable {H : Type} {enc : TypeId × Value → H} {w : World} {base : Nat} {spare : Nat → Bool} {held : Bool} {r : Reach} {b0 : Nat} {v : Value} {d : DataW H} {p : List MemPlace}
/-- A slice of ints that came in. -/
theorem open_szs {n : Nat} {v : Value} {y : DataW H × List MemPlace} (h : DataW.trod enc Try.prog w base spare held n 25 [v] = some y) : ∃ a cap zs, v = .slice a zs.length cap ∧ Given .i64 w a zs ∧ zs.length ≤ maxLen := by
  rcases open_ints Try.underlying25 Try.underlying3 (by kernel_rfl) h with ⟨hcs, _⟩ | ⟨x, l, c, zs, hcs, _, hl, hm, hz, _, hcell, hwz⟩
  · simp only [List.cons.injEq, and_true] at hcs
    subst hcs
    exact ⟨none, 0, [], rfl, given_nil _ _ _, by simp⟩
  · simp only [List.cons.injEq, and_true] at hcs
    subst hcs
    have hz' : l ≤ zs.length ∧ zs.length ≤ c := by rw [hz]; split <;> omega
    refine ⟨some x, c, zs.take l, ?_, given_of (by omega) hcell, by simp; omega⟩
    rw [List.length_take, Nat.min_eq_left (by omega)]

/-- A slice of words that came in. -/
theorem open_u32s {n : Nat} {v : Value} {y : DataW H × List MemPlace} (h : DataW.trod enc Try.prog w base spare held n 26 [v] = some y) : ∃ a cap zs, v = .slice a zs.length cap ∧ Given .u32 w a zs ∧ zs.length ≤ maxLen ∧ U32s zs := by
  rcases open_ints Try.underlying26 Try.underlying49 (by kernel_rfl) h with ⟨hcs, _⟩ | ⟨x, l, c, zs, hcs, _, hl, hm, hz, _, hcell, hwz⟩
  · simp only [List.cons.injEq, and_true] at hcs
    subst hcs
    exact ⟨none, 0, [], rfl, given_nil _ _ _, by simp, by intro x hx; cases hx⟩
  · simp only [List.cons.injEq, and_true] at hcs
    subst hcs
    have hz' : l ≤ zs.length ∧ zs.length ≤ c := by rw [hz]; split <;> omega
    refine ⟨some x, c, zs.take l, ?_, given_of (by omega) hcell, by simp; omega, fun n hn => u32_bounds (hwz n (List.mem_of_mem_take hn))⟩
    rw [List.length_take, Nat.min_eq_left (by omega)]

theorem open_code3 {n : Nat} {v0 v1 v2 : Value} {y : DataW H × List MemPlace} (hf : DataW.trod enc Try.prog w base spare held n 24 [v0, v1, v2] = some y) : ∃ c : Prg, Pv w (.agg #[v0, v1, v2]) c ∧ PrgWf c := by
  have hS : Try.prog.cellsOf 22 = 1 := by kernel_rfl
  have hI : Try.prog.cellsOf 3 = 1 := by kernel_rfl
  obtain ⟨xs, n2, _, hx, _, hlen, hg⟩ := DataW.trod_struct Try.underlying24 hf
  obtain ⟨y0, y1, y2, rfl⟩ : ∃ y0 y1 y2, xs = [y0, y1, y2] := by
    match xs, hlen with
    | [y0, y1, y2], _ => exact ⟨y0, y1, y2, rfl⟩
  have t0 := hg 0 _ rfl
  have t1 := hg 1 _ rfl
  have t2 := hg 2 _ rfl
  simp [hS, hI] at t0 t1 t2
  obtain ⟨x1, e1, _, w1⟩ := DataW.trod_int Try.underlying3 t1
  obtain ⟨x2, e2, _, w2⟩ := DataW.trod_int Try.underlying3 t2
  simp only [List.cons.injEq, and_true] at e1 e2
  subst e1 e2
  obtain ⟨q1, q2⟩ := i64_fits w1
  obtain ⟨q3, q4⟩ := i64_fits w2
  rcases open_slice Try.underlying22 t0 with ⟨hcs, _⟩ | ⟨ad, len, cap, m, n', D, Pl, hcs, _, hl, hm, _⟩
  · simp only [List.cons.injEq, and_true] at hcs
    subst hcs
    exact ⟨⟨[], x1, x2⟩, ⟨none, 0, rfl, Nat.le_refl _, by simp, fun _ => rfl, fun h => by simp at h⟩, ⟨by simp, q1, q2, q3, q4⟩⟩
  · simp only [List.cons.injEq, and_true] at hcs
    subst hcs
    obtain ⟨_, hr⟩ := open_recs (e := 55) Try.underlying22 Try.underlying55 (by kernel_rfl) (by kernel_rfl) (by decide) t0
    by_cases h0 : len = 0
    · subst h0
      exact ⟨⟨[], x1, x2⟩, ⟨some ad, cap, rfl, hl, hm, (fun h => (by cases h)), (fun h => (by simp at h))⟩, ⟨by simp, q1, q2, q3, q4⟩⟩
    obtain ⟨b, off, e, hlt, hc⟩ := hr (by omega)
    injection e with e
    subst e
    obtain ⟨l, rfl, hw, hl2⟩ := ins_list (w := w) (b := b) (off := off) len (fun k hk => by
      obtain ⟨u0, c0, k0⟩ := hc k hk 0 (by decide)
      obtain ⟨u1, c1, k1⟩ := hc k hk 1 (by decide)
      obtain ⟨u2, c2, k2⟩ := hc k hk 2 (by decide)
      obtain ⟨u3, c3, k3⟩ := hc k hk 3 (by decide)
      obtain ⟨u4, c4, k4⟩ := hc k hk 4 (by decide)
      obtain ⟨u5, c5, k5⟩ := hc k hk 5 (by decide)
      obtain ⟨u6, c6, k6⟩ := hc k hk 6 (by decide)
      obtain ⟨u7, c7, k7⟩ := hc k hk 7 (by decide)
      obtain ⟨_, _, s0⟩ := k0 _ rfl
      obtain ⟨_, _, s1⟩ := k1 _ rfl
      obtain ⟨_, _, s2⟩ := k2 _ rfl
      obtain ⟨_, _, s3⟩ := k3 _ rfl
      obtain ⟨_, _, s4⟩ := k4 _ rfl
      obtain ⟨_, _, s5⟩ := k5 _ rfl
      obtain ⟨_, _, s6⟩ := k6 _ rfl
      obtain ⟨_, _, s7⟩ := k7 _ rfl
      obtain ⟨n0, e0, _, w0⟩ := DataW.trod_int Try.underlying3 s0
      obtain ⟨n1, e1, _, w1⟩ := DataW.trod_int Try.underlying3 s1
      obtain ⟨n2, e2, _, w2⟩ := DataW.trod_int Try.underlying3 s2
      obtain ⟨n3, e3, _, w3⟩ := DataW.trod_int Try.underlying3 s3
      obtain ⟨n4, e4, _, w4⟩ := DataW.trod_int Try.underlying3 s4
      obtain ⟨n5, e5, _, w5⟩ := DataW.trod_int Try.underlying3 s5
      obtain ⟨n6, e6, _, w6⟩ := DataW.trod_int Try.underlying49 s6
      obtain ⟨n7, e7, _, w7⟩ := DataW.trod_int Try.underlying3 s7
      simp only [List.cons.injEq, and_true] at e0 e1 e2 e3 e4 e5 e6 e7
      subst e0 e1 e2 e3 e4 e5 e6 e7
      refine ⟨⟨n0, n1, n2, n3, n4, n5, n6, n7⟩, ?_, fun j hj => ?_⟩
      · obtain ⟨a0, b0⟩ := i64_fits w0
        obtain ⟨a1, b1⟩ := i64_fits w1
        obtain ⟨a2, b2⟩ := i64_fits w2
        obtain ⟨a3, b3⟩ := i64_fits w3
        obtain ⟨a4, b4⟩ := i64_fits w4
        obtain ⟨a5, b5⟩ := i64_fits w5
        obtain ⟨a6, b6⟩ := u32_bounds w6
        obtain ⟨a7, b7⟩ := i64_fits w7
        constructor <;> assumption
      · match j, hj with
        | 0, _ => exact c0
        | 1, _ => exact c1
        | 2, _ => exact c2
        | 3, _ => exact c3
        | 4, _ => exact c4
        | 5, _ => exact c5
        | 6, _ => exact c6
        | 7, _ => exact c7)
    exact ⟨⟨l, x1, x2⟩, ⟨some ⟨b, off, none⟩, cap, rfl, hl, hm, fun h => (by cases h), fun _ => ⟨b, off, rfl, hlt, hl2⟩⟩, ⟨hw, q1, q2, q3, q4⟩⟩

theorem open_spec (hv : Value.okWide Try.prog w r b0 28 v) (h : DataW.Trod enc Try.prog w base spare held 28 v d p) :
    ∃ c zs init r7 each, Sv w v c zs init r7 each ∧ PrgWf c ∧ U32s init ∧ U32s r7 := by
  obtain ⟨cs, rfl, hsz⟩ := okWide_struct Try.underlying28 hv
  obtain ⟨l⟩ := cs
  have hC : Try.prog.cellsOf 28 = 7 := by kernel_rfl
  have hK : Try.prog.cellsOf 24 = 3 := by kernel_rfl
  have hS : Try.prog.cellsOf 25 = 1 := by kernel_rfl
  have hU : Try.prog.cellsOf 26 = 1 := by kernel_rfl
  have hI : Try.prog.cellsOf 3 = 1 := by kernel_rfl
  match l, hsz.trans hC with
  | [c0, c1, c2, c3, c4, c5, c6], _ =>
    obtain ⟨fuel, hf⟩ := h
    obtain ⟨xs, n, _, hx, _, hlen, hg⟩ := DataW.trod_struct Try.underlying28 hf
    obtain ⟨y0, y1, y2, y3, y4, rfl⟩ : ∃ y0 y1 y2 y3 y4, xs = [y0, y1, y2, y3, y4] := by
      match xs, hlen with
      | [y0, y1, y2, y3, y4], _ => exact ⟨y0, y1, y2, y3, y4, rfl⟩
    have t0 := hg 0 _ rfl
    have t1 := hg 1 _ rfl
    have t2 := hg 2 _ rfl
    have t3 := hg 3 _ rfl
    have t4 := hg 4 _ rfl
    simp [hK, hS, hU, hI, Value.cells] at t0 t1 t2 t3 t4
    obtain ⟨c, hc, hw⟩ := open_code3 t0
    obtain ⟨a1, k1, z1, rfl, g1, m1⟩ := open_szs t1
    obtain ⟨a2, k2, z2, rfl, g2, m2, u2⟩ := open_u32s t2
    obtain ⟨x3, e3, _, w3⟩ := DataW.trod_int Try.underlying3 t3
    obtain ⟨a4, k4, z4, rfl, g4, m4, u4⟩ := open_u32s t4
    simp only [List.cons.injEq, and_true] at e3
    subst e3
    have hc2 := hc
    obtain ⟨a0, k0, e0, _⟩ := hc2
    injection e0 with e0
    simp at e0
    obtain ⟨rfl, rfl, rfl⟩ := e0
    exact ⟨c, z1, z2, z4, x3, ⟨a0, k0, a1, k1, a2, k2, a4, k4, rfl, hc, g1, g2, g4, m1, m2, m4⟩, hw, u2, u4⟩
end
end Go.Proofs.Ytpinpipjlongaaa
