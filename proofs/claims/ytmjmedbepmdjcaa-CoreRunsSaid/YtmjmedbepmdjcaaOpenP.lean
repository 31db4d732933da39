/- A program that came in by value, opened. -/
import Derived.Test.YtmjmedbepmdjcaaOpn
import Derived.Test.YtmjmedbepmdjcaaPrg
import Derived.Test.YtmjmedbepmdjcaaRecs
namespace Go.Proofs.Ytmjmedbepmdjcaa
open Go.Joins Go.ChangeShapes Go.WideShapes Go.ChangeAt Go.RowKit Go.Deep
set_option linter.unusedVariables false

/-- What its instructions and places may be. -/
structure PrgWf (c : Prg) : Prop where
  ins : ∀ i ∈ c.l, i.Wf
  lo0 : -9223372036854775808 ≤ c.lo
  lo1 : c.lo ≤ 9223372036854775807
  un0 : -9223372036854775808 ≤ c.un
  un1 : c.un ≤ 9223372036854775807

/-- So many, one by one. -/
theorem ins_list {w : World} {b off : Nat} : ∀ n : Nat, (∀ k, k < n → ∃ i : Ins, i.Wf ∧ ∀ j, j < 8 → w.cell? ⟨b, off + k * 8 + j, none⟩ = (insC i)[j]?) → ∃ l : List Ins, l.length = n ∧ (∀ i ∈ l, i.Wf) ∧ ∀ k i, l[k]? = some i → ∀ j, j < 8 → w.cell? ⟨b, off + k * 8 + j, none⟩ = (insC i)[j]?
  | 0, _ => ⟨[], rfl, by simp, by simp⟩
  | n + 1, h => by
    obtain ⟨l, h1, h2, h3⟩ := ins_list n fun k hk => h k (by omega)
    obtain ⟨i, hw, hi⟩ := h n (by omega)
    refine ⟨l ++ [i], by simp [h1], fun x hx => ?_, fun k x hk j hj => ?_⟩
    · rcases List.mem_append.1 hx with hx | hx
      · exact h2 x hx
      · simp at hx; subst hx; exact hw
    · rw [List.getElem?_append] at hk
      split at hk
      · exact h3 k x hk j hj
      · rename_i hlt
        have hkn : k = n := by
          have := (List.getElem?_eq_some_iff.1 hk).1
          simp at this
          omega
        subst hkn
        rw [h1, Nat.sub_self] at hk
        simp at hk
        subst hk
        exact hi j hj

set_option maxRecDepth 100000 in
theorem open_code {H : Type} {enc : TypeId × Value → H} {w : World} {base : Nat} {spare : Nat → Bool} {held : Bool} {r : Reach} {b0 : Nat} {v : Value} {d : DataW H} {p : List MemPlace}
    (hv : Value.okWide Try.prog w r b0 41 v) (h : DataW.Trod enc Try.prog w base spare held 41 v d p) : ∃ c : Prg, Pv w v c ∧ PrgWf c := by
  obtain ⟨v0, v1, v2, y0, y1, y2, n, rfl, t0, t1, t2⟩ := open_agg3 Try.underlying41 (by kernel_rfl) (by kernel_rfl) hv h
  obtain ⟨x1, e1, _, w1⟩ := DataW.trod_int Try.underlying3 t1
  obtain ⟨x2, e2, _, w2⟩ := DataW.trod_int Try.underlying3 t2
  simp only [List.cons.injEq, and_true] at e1 e2
  subst e1 e2
  obtain ⟨q1, q2⟩ := i64_fits w1
  obtain ⟨q3, q4⟩ := i64_fits w2
  rcases open_slice Try.underlying39 t0 with ⟨hcs, _⟩ | ⟨ad, len, cap, m, n', D, Pl, hcs, _, hl, hm, _⟩
  · simp only [List.cons.injEq, and_true] at hcs
    subst hcs
    exact ⟨⟨[], x1, x2⟩, ⟨none, 0, rfl, Nat.le_refl _, by simp, fun _ => rfl, fun h => by simp at h⟩, ⟨by simp, q1, q2, q3, q4⟩⟩
  · simp only [List.cons.injEq, and_true] at hcs
    subst hcs
    obtain ⟨_, hr⟩ := open_recs (e := 27) Try.underlying39 Try.underlying27 (by kernel_rfl) (by kernel_rfl) (by decide) t0
    by_cases h0 : len = 0
    · subst h0
      exact ⟨⟨[], x1, x2⟩, ⟨some ad, cap, rfl, hl, hm, (fun h => (by cases h)), (fun h => (by simp at h))⟩, ⟨by simp, q1, q2, q3, q4⟩⟩
    obtain ⟨b, off, e, hlt, hc⟩ := hr (by omega)
    injection e with e
    subst e
    obtain ⟨l, rfl, hw, hl2⟩ := ins_list (w := w) (b := b) (off := off) len (fun k hk => by
      obtain ⟨u0, c0, k0⟩ := hc k hk 0 (by decide)
      obtain ⟨u1, c1, k1⟩ := hc k hk 1 (by decide)
      obtain ⟨u2, c2, k2⟩ := hc k hk 2 (by decide)
      obtain ⟨u3, c3, k3⟩ := hc k hk 3 (by decide)
      obtain ⟨u4, c4, k4⟩ := hc k hk 4 (by decide)
      obtain ⟨u5, c5, k5⟩ := hc k hk 5 (by decide)
      obtain ⟨u6, c6, k6⟩ := hc k hk 6 (by decide)
      obtain ⟨u7, c7, k7⟩ := hc k hk 7 (by decide)
      obtain ⟨_, _, s0⟩ := k0 _ rfl
      obtain ⟨_, _, s1⟩ := k1 _ rfl
      obtain ⟨_, _, s2⟩ := k2 _ rfl
      obtain ⟨_, _, s3⟩ := k3 _ rfl
      obtain ⟨_, _, s4⟩ := k4 _ rfl
      obtain ⟨_, _, s5⟩ := k5 _ rfl
      obtain ⟨_, _, s6⟩ := k6 _ rfl
      obtain ⟨_, _, s7⟩ := k7 _ rfl
      obtain ⟨n0, e0, _, w0⟩ := DataW.trod_int Try.underlying3 s0
      obtain ⟨n1, e1, _, w1⟩ := DataW.trod_int Try.underlying3 s1
      obtain ⟨n2, e2, _, w2⟩ := DataW.trod_int Try.underlying3 s2
      obtain ⟨n3, e3, _, w3⟩ := DataW.trod_int Try.underlying3 s3
      obtain ⟨n4, e4, _, w4⟩ := DataW.trod_int Try.underlying3 s4
      obtain ⟨n5, e5, _, w5⟩ := DataW.trod_int Try.underlying3 s5
      obtain ⟨n6, e6, _, w6⟩ := DataW.trod_int Try.underlying22 s6
      obtain ⟨n7, e7, _, w7⟩ := DataW.trod_int Try.underlying3 s7
      simp only [List.cons.injEq, and_true] at e0 e1 e2 e3 e4 e5 e6 e7
      subst e0 e1 e2 e3 e4 e5 e6 e7
      refine ⟨⟨n0, n1, n2, n3, n4, n5, n6, n7⟩, ?_, fun j hj => ?_⟩
      · obtain ⟨a0, b0⟩ := i64_fits w0
        obtain ⟨a1, b1⟩ := i64_fits w1
        obtain ⟨a2, b2⟩ := i64_fits w2
        obtain ⟨a3, b3⟩ := i64_fits w3
        obtain ⟨a4, b4⟩ := i64_fits w4
        obtain ⟨a5, b5⟩ := i64_fits w5
        obtain ⟨a6, b6⟩ := u32_bounds w6
        obtain ⟨a7, b7⟩ := i64_fits w7
        constructor <;> assumption
      · match j, hj with
        | 0, _ => exact c0
        | 1, _ => exact c1
        | 2, _ => exact c2
        | 3, _ => exact c3
        | 4, _ => exact c4
        | 5, _ => exact c5
        | 6, _ => exact c6
        | 7, _ => exact c7)
    exact ⟨⟨l, x1, x2⟩, ⟨some ⟨b, off, none⟩, cap, rfl, hl, hm, fun h => (by cases h), fun _ => ⟨b, off, rfl, hlt, hl2⟩⟩, ⟨hw, q1, q2, q3, q4⟩⟩
end Go.Proofs.Ytmjmedbepmdjcaa
