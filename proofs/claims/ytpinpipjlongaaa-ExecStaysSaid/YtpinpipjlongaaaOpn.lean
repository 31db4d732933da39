/- Opn, Recs, OpenP, one behind the other. -/
import Derived.Test.YtpinpipjlongaaaMem
import Derived.Test.YtpinpipjlongaaaInstA
import Derived.ProofKit
import Derived.OpenShut
import Derived.Deep.Fields
import Derived.Lib.SmallJoins
import Derived.Deep.Slices
import Derived.ChangeSame
import Derived.Test.YtpinpipjlongaaaPrg
/- Structs that came in by value, opened. -/
namespace Go.Proofs.Ytpinpipjlongaaa
open Go.Joins Go.ChangeShapes Go.WideShapes Go.ChangeAt Go.RowKit Go.Deep
set_option linter.unusedVariables false

section
variable {H : Type} {enc : TypeId × Value → H} {P : Program} {w : World} {base : Nat} {spare : Nat → Bool} {held : Bool}
/-- A struct of eight one-cell fields, by value: its parts, and each one's reading. -/
theorem open_agg8 {r : Reach} {b0 : Nat} {t : TypeId} {f0 f1 f2 f3 f4 f5 f6 f7 : Field} {v : Value} {d : DataW H} {p : List MemPlace} (hs : P.underlying t = some (.struct #[f0, f1, f2, f3, f4, f5, f6, f7])) (hone : oneCellFields P #[f0, f1, f2, f3, f4, f5, f6, f7] = true) (hC : P.cellsOf t = 8)
    (hv : Value.okWide P w r b0 t v) (h : DataW.Trod enc P w base spare held t v d p) :
    ∃ (v0 v1 v2 v3 v4 v5 v6 v7 : Value) (y0 y1 y2 y3 y4 y5 y6 y7 : DataW H × List MemPlace) (n : Nat), v = .agg #[v0, v1, v2, v3, v4, v5, v6, v7] ∧ DataW.trod enc P w base spare held n f0.type [v0] = some y0 ∧ DataW.trod enc P w base spare held n f1.type [v1] = some y1 ∧ DataW.trod enc P w base spare held n f2.type [v2] = some y2 ∧ DataW.trod enc P w base spare held n f3.type [v3] = some y3 ∧ DataW.trod enc P w base spare held n f4.type [v4] = some y4 ∧ DataW.trod enc P w base spare held n f5.type [v5] = some y5 ∧ DataW.trod enc P w base spare held n f6.type [v6] = some y6 ∧ DataW.trod enc P w base spare held n f7.type [v7] = some y7 := by
  obtain ⟨cs, rfl, hsz⟩ := okWide_struct hs hv
  obtain ⟨l⟩ := cs
  match l, hsz.trans hC with
  | [c0, c1, c2, c3, c4, c5, c6, c7], _ =>
    obtain ⟨fuel, hf⟩ := h
    obtain ⟨xs, n, _, hx, _, hlen, hg⟩ := DataW.trod_struct hs hf
    obtain ⟨o0, k0⟩ := hone_of hone 0 f0 rfl
    obtain ⟨o1, k1⟩ := hone_of hone 1 f1 rfl
    obtain ⟨o2, k2⟩ := hone_of hone 2 f2 rfl
    obtain ⟨o3, k3⟩ := hone_of hone 3 f3 rfl
    obtain ⟨o4, k4⟩ := hone_of hone 4 f4 rfl
    obtain ⟨o5, k5⟩ := hone_of hone 5 f5 rfl
    obtain ⟨o6, k6⟩ := hone_of hone 6 f6 rfl
    obtain ⟨o7, k7⟩ := hone_of hone 7 f7 rfl
    match xs, hlen with
    | [y0, y1, y2, y3, y4, y5, y6, y7], _ =>
      exact ⟨c0, c1, c2, c3, c4, c5, c6, c7, y0, y1, y2, y3, y4, y5, y6, y7, n, rfl, by simpa [Value.cells, o0, k0] using hg 0 f0 rfl, by simpa [Value.cells, o1, k1] using hg 1 f1 rfl, by simpa [Value.cells, o2, k2] using hg 2 f2 rfl, by simpa [Value.cells, o3, k3] using hg 3 f3 rfl, by simpa [Value.cells, o4, k4] using hg 4 f4 rfl, by simpa [Value.cells, o5, k5] using hg 5 f5 rfl, by simpa [Value.cells, o6, k6] using hg 6 f6 rfl, by simpa [Value.cells, o7, k7] using hg 7 f7 rfl⟩
end

theorem i64_fits {n : Int} (h : (Lit.int .i64 n).wf = true) : -9223372036854775808 ≤ n ∧ n ≤ 9223372036854775807 := by
  simp [Lit.wf, IntKind.min, IntKind.max, IntKind.bits, IntKind.signed] at h; omega

section
variable {H : Type} {enc : TypeId × Value → H} {P : Program} {w : World} {base : Nat} {spare : Nat → Bool} {held : Bool}
theorem open_agg3 {r : Reach} {b0 : Nat} {t : TypeId} {f0 f1 f2 : Field} {v : Value} {d : DataW H} {p : List MemPlace} (hs : P.underlying t = some (.struct #[f0, f1, f2])) (hone : oneCellFields P #[f0, f1, f2] = true) (hC : P.cellsOf t = 3)
    (hv : Value.okWide P w r b0 t v) (h : DataW.Trod enc P w base spare held t v d p) :
    ∃ (v0 v1 v2 : Value) (y0 y1 y2 : DataW H × List MemPlace) (n : Nat), v = .agg #[v0, v1, v2] ∧ DataW.trod enc P w base spare held n f0.type [v0] = some y0 ∧ DataW.trod enc P w base spare held n f1.type [v1] = some y1 ∧ DataW.trod enc P w base spare held n f2.type [v2] = some y2 := by
  obtain ⟨cs, rfl, hsz⟩ := okWide_struct hs hv
  obtain ⟨l⟩ := cs
  match l, hsz.trans hC with
  | [c0, c1, c2], _ =>
    obtain ⟨fuel, hf⟩ := h
    obtain ⟨xs, n, _, hx, _, hlen, hg⟩ := DataW.trod_struct hs hf
    obtain ⟨o0, k0⟩ := hone_of hone 0 f0 rfl
    obtain ⟨o1, k1⟩ := hone_of hone 1 f1 rfl
    obtain ⟨o2, k2⟩ := hone_of hone 2 f2 rfl
    match xs, hlen with
    | [y0, y1, y2], _ =>
      exact ⟨c0, c1, c2, y0, y1, y2, n, rfl, by simpa [Value.cells, o0, k0] using hg 0 f0 rfl, by simpa [Value.cells, o1, k1] using hg 1 f1 rfl, by simpa [Value.cells, o2, k2] using hg 2 f2 rfl⟩
end

set_option maxRecDepth 100000 in
/-- An instruction that came in. -/
theorem open_inst {H : Type} {enc : TypeId × Value → H} {w : World} {base : Nat} {spare : Nat → Bool} {held : Bool} {r : Reach} {b0 : Nat} {v : Value} {d : DataW H} {p : List MemPlace}
    (hv : Value.okWide Try.prog w r b0 55 v) (h : DataW.Trod enc Try.prog w base spare held 55 v d p) : ∃ i : Ins, v = iv i ∧ i.Wf := by
  obtain ⟨v0, v1, v2, v3, v4, v5, v6, v7, y0, y1, y2, y3, y4, y5, y6, y7, n, rfl, t0, t1, t2, t3, t4, t5, t6, t7⟩ := open_agg8 Try.underlying55 (by kernel_rfl) (by kernel_rfl) hv h
  obtain ⟨x0, e0, _, w0⟩ := DataW.trod_int Try.underlying3 t0
  obtain ⟨x1, e1, _, w1⟩ := DataW.trod_int Try.underlying3 t1
  obtain ⟨x2, e2, _, w2⟩ := DataW.trod_int Try.underlying3 t2
  obtain ⟨x3, e3, _, w3⟩ := DataW.trod_int Try.underlying3 t3
  obtain ⟨x4, e4, _, w4⟩ := DataW.trod_int Try.underlying3 t4
  obtain ⟨x5, e5, _, w5⟩ := DataW.trod_int Try.underlying3 t5
  obtain ⟨x6, e6, _, w6⟩ := DataW.trod_int Try.underlying49 t6
  obtain ⟨x7, e7, _, w7⟩ := DataW.trod_int Try.underlying3 t7
  simp only [List.cons.injEq, and_true] at e0 e1 e2 e3 e4 e5 e6 e7
  subst e0 e1 e2 e3 e4 e5 e6 e7
  refine ⟨⟨x0, x1, x2, x3, x4, x5, x6, x7⟩, rfl, ?_⟩
  obtain ⟨a0, b0⟩ := i64_fits w0
  obtain ⟨a1, b1⟩ := i64_fits w1
  obtain ⟨a2, b2⟩ := i64_fits w2
  obtain ⟨a3, b3⟩ := i64_fits w3
  obtain ⟨a4, b4⟩ := i64_fits w4
  obtain ⟨a5, b5⟩ := i64_fits w5
  obtain ⟨a6, b6⟩ := u32_bounds w6
  obtain ⟨a7, b7⟩ := i64_fits w7
  constructor <;> assumption
end Go.Proofs.Ytpinpipjlongaaa

/- A slice of structs that came in, whose fields are one cell each: where each field of each struct lies, and that it reads as its type says. Over any program. -/
namespace Go.Proofs.Ytpinpipjlongaaa
open Go.ChangeShapes Go.WideShapes Go.ChangeAt Go.RowKit Go.Deep

/-- Where there is a struct, all lie from one place on; field j of struct i is the cell i * S + j behind it, and is what 'what j' says. -/
def Recs (w : World) (a : Option Addr) (len S : Nat) (what : Nat → Value → Prop) : Prop :=
  0 < len → ∃ b off, a = some ⟨b, off, none⟩ ∧ b < w.heap.size ∧ ∀ i, i < len → ∀ j, j < S → ∃ u, w.cell? ⟨b, off + i * S + j, none⟩ = some u ∧ what j u

theorem Recs.at_ {w : World} {a : Option Addr} {len S : Nat} {what : Nat → Value → Prop} (h : Recs w a len S what) {i : Nat} (hi : i < len) {wr : World} (hb : Below w.heap.size w wr) :
    ∃ b off, a = some ⟨b, off, none⟩ ∧ ∀ j, j < S → ∃ u, wr.cell? ⟨b, off + i * S + j, none⟩ = some u ∧ what j u := by
  obtain ⟨b, off, e, hlt, hc⟩ := h (by omega)
  refine ⟨b, off, e, fun j hj => ?_⟩
  obtain ⟨u, hu, hw⟩ := hc i hi j hj
  exact ⟨u, (hb.cell (p := ⟨b, off + i * S + j, none⟩) hlt).trans hu, hw⟩

section
variable {H : Type} {enc : TypeId × Value → H} {P : Program} {w : World} {base : Nat} {spare : Nat → Bool} {held : Bool}
theorem weightsAll_mem {e : TypeId} {ds : List (DataW H)} {d : DataW H} (h : d ∈ ds) : ∀ q ∈ d.weights P e, q ∈ DataW.weightsAll P e ds := by
  intro q hq
  induction ds with
  | nil => simp at h
  | cons d' r ih =>
    simp only [DataW.weightsAll, List.mem_append]
    rcases List.mem_cons.1 h with rfl | h
    · exact .inl hq
    · exact .inr (ih h)
theorem weightsEach_mem {ts : List TypeId} {ds : List (DataW H)} {j : Nat} {t : TypeId} {d : DataW H} (ht : ts[j]? = some t) (hd : ds[j]? = some d) : ∀ q ∈ d.weights P t, q ∈ DataW.weightsEach P ts ds := by
  intro q hq
  induction ts generalizing ds j with
  | nil => simp at ht
  | cons t0 ts ih =>
    cases ds with
    | nil => simp at hd
    | cons d0 ds =>
      simp only [DataW.weightsEach, List.mem_append]
      cases j with
      | zero =>
        simp only [List.getElem?_cons_zero, Option.some.injEq] at ht hd
        subst ht; subst hd
        exact .inl hq
      | succ j => exact .inr (ih (by simpa using ht) (by simpa using hd))

/-- .. and what each field weighs is among what the slice weighs. -/
theorem open_recs_w {t e : TypeId} {fs : Array Field} {fuel : Nat} {a : Option Addr} {len cap : Nat} {x : DataW H × List MemPlace} (ht : P.underlying t = some (.slice e)) (he : P.underlying e = some (.struct fs))
    (hone : oneCellFields P fs = true) (hC : P.cellsOf e = fs.size) (h0 : 0 < fs.size) (h : DataW.trod enc P w base spare held fuel t [.slice a len cap] = some x) :
    len ≤ maxLen ∧ Recs w a len fs.size (fun j u => ∀ f, fs[j]? = some f → ∃ n y, DataW.trod enc P w base spare held n f.type [u] = some y ∧ ∀ q ∈ y.1.weights P f.type, q ∈ x.1.weights P t) := by
  rcases open_slice ht h with ⟨hcs, _⟩ | ⟨ad, l, c, m, n, D, Pl, hcs, _, hl, hm, hmm, hX, hx⟩
  · simp only [List.cons.injEq, Value.slice.injEq, and_true] at hcs
    obtain ⟨rfl, rfl, rfl⟩ := hcs
    exact ⟨by simp, fun hh => absurd hh (by omega)⟩
  · simp only [List.cons.injEq, Value.slice.injEq, and_true] at hcs
    obtain ⟨rfl, rfl, rfl⟩ := hcs
    refine ⟨by omega, fun hlen => ?_⟩
    have hml : len ≤ m := by rw [hmm]; split <;> omega
    have hcell : ∀ i, i < len → ∀ j, j < fs.size → ∃ u, w.cell? (ad.add (i * fs.size + j)) = some u ∧ ∀ f, fs[j]? = some f → ∃ n y, DataW.trod enc P w base spare held n f.type [u] = some y ∧ ∀ q ∈ y.1.weights P f.type, q ∈ x.1.weights P t := by
      intro i hi j hj
      obtain ⟨cs', hc, ht'⟩ := hx i (by omega)
      rw [hC] at hc
      obtain ⟨ys, n', _, hys, hlen', hyl, hf⟩ := DataW.trod_struct he ht'
      obtain ⟨_, hcl, hat⟩ := World.cells?_some hc
      have hjc : j < cs'.length := by omega
      refine ⟨cs'[j], ?_, fun f hj' => ?_⟩
      · have := hat j hj
        rw [Go.Deep.add_add] at this
        rw [this, List.getElem?_eq_getElem hjc]
      · obtain ⟨ho, hk⟩ := hone_of hone j f hj'
        have h1 := hf j f hj'
        rw [ho, hk, List.drop_eq_getElem_cons hjc] at h1
        have hyj : j < ys.length := by omega
        refine ⟨n', _, h1.trans (List.getElem?_eq_getElem hyj), fun q hq => ?_⟩
        rw [hX]
        simp only [DataW.weights, ht, List.mem_cons, List.mem_append]
        right; left
        refine weightsAll_mem (d := D i) (List.mem_map.2 ⟨i, List.mem_range.2 hi, rfl⟩) q ?_
        have hD : D i = .agg (ys.map (·.1)) := by injection hys
        rw [hD]
        simp only [DataW.weights, he]
        refine weightsEach_mem (j := j) (t := f.type) (d := ys[j].1) ?_ ?_ q hq
        · rw [List.getElem?_map, Array.getElem?_toList, hj']; rfl
        · rw [List.getElem?_map, List.getElem?_eq_getElem hyj]; rfl
    obtain ⟨u0, hu0, _⟩ := hcell 0 hlen 0 h0
    have e0 : ad.add (0 * fs.size + 0) = ad := by unfold Addr.add; simp
    rw [e0] at hu0
    obtain ⟨_, _, _, _, hsp⟩ := World.shape?_of_cell? hu0
    obtain ⟨b, off, sp⟩ := ad
    simp only at hsp
    subst hsp
    refine ⟨b, off, rfl, World.block_lt_of_cell? w _ hu0, fun i hi j hj => ?_⟩
    obtain ⟨u, hu, hw⟩ := hcell i hi j hj
    refine ⟨u, ?_, hw⟩
    have e1 : (⟨b, off, none⟩ : Addr).add (i * fs.size + j) = ⟨b, off + i * fs.size + j, none⟩ := by
      rw [Nat.add_assoc]; unfold Addr.add; split
      · rename_i hz; rw [hz]; rfl
      · rfl
    rw [← e1]; exact hu
theorem open_recs {t e : TypeId} {fs : Array Field} {fuel : Nat} {a : Option Addr} {len cap : Nat} {x : DataW H × List MemPlace} (ht : P.underlying t = some (.slice e)) (he : P.underlying e = some (.struct fs))
    (hone : oneCellFields P fs = true) (hC : P.cellsOf e = fs.size) (h0 : 0 < fs.size) (h : DataW.trod enc P w base spare held fuel t [.slice a len cap] = some x) :
    len ≤ maxLen ∧ Recs w a len fs.size (fun j u => ∀ f, fs[j]? = some f → ∃ n y, DataW.trod enc P w base spare held n f.type [u] = some y) := by
  obtain ⟨hl, hr⟩ := open_recs_w ht he hone hC h0 h
  refine ⟨hl, fun h1 => ?_⟩
  obtain ⟨b, off, e, hlt, hc⟩ := hr h1
  refine ⟨b, off, e, hlt, fun i hi j hj => ?_⟩
  obtain ⟨u, hu, hw⟩ := hc i hi j hj
  exact ⟨u, hu, fun f hf => by obtain ⟨n, y, hy, _⟩ := hw f hf; exact ⟨n, y, hy⟩⟩
end
end Go.Proofs.Ytpinpipjlongaaa

/- A program that came in by value, opened. -/
namespace Go.Proofs.Ytpinpipjlongaaa
open Go.Joins Go.ChangeShapes Go.WideShapes Go.ChangeAt Go.RowKit Go.Deep
set_option linter.unusedVariables false

/-- What its instructions and places may be. -/
structure PrgWf (c : Prg) : Prop where
  ins : ∀ i ∈ c.l, i.Wf
  lo0 : -9223372036854775808 ≤ c.lo
  lo1 : c.lo ≤ 9223372036854775807
  un0 : -9223372036854775808 ≤ c.un
  un1 : c.un ≤ 9223372036854775807

/-- So many, one by one. -/
theorem ins_list {w : World} {b off : Nat} : ∀ n : Nat, (∀ k, k < n → ∃ i : Ins, i.Wf ∧ ∀ j, j < 8 → w.cell? ⟨b, off + k * 8 + j, none⟩ = (insC i)[j]?) → ∃ l : List Ins, l.length = n ∧ (∀ i ∈ l, i.Wf) ∧ ∀ k i, l[k]? = some i → ∀ j, j < 8 → w.cell? ⟨b, off + k * 8 + j, none⟩ = (insC i)[j]?
  | 0, _ => ⟨[], rfl, by simp, by simp⟩
  | n + 1, h => by
    obtain ⟨l, h1, h2, h3⟩ := ins_list n fun k hk => h k (by omega)
    obtain ⟨i, hw, hi⟩ := h n (by omega)
    refine ⟨l ++ [i], by simp [h1], fun x hx => ?_, fun k x hk j hj => ?_⟩
    · rcases List.mem_append.1 hx with hx | hx
      · exact h2 x hx
      · simp at hx; subst hx; exact hw
    · rw [List.getElem?_append] at hk
      split at hk
      · exact h3 k x hk j hj
      · rename_i hlt
        have hkn : k = n := by
          have := (List.getElem?_eq_some_iff.1 hk).1
          simp at this
          omega
        subst hkn
        rw [h1, Nat.sub_self] at hk
        simp at hk
        subst hk
        exact hi j hj

set_option maxRecDepth 100000 in
theorem open_code {H : Type} {enc : TypeId × Value → H} {w : World} {base : Nat} {spare : Nat → Bool} {held : Bool} {r : Reach} {b0 : Nat} {v : Value} {d : DataW H} {p : List MemPlace}
    (hv : Value.okWide Try.prog w r b0 24 v) (h : DataW.Trod enc Try.prog w base spare held 24 v d p) : ∃ c : Prg, Pv w v c ∧ PrgWf c := by
  obtain ⟨v0, v1, v2, y0, y1, y2, n, rfl, t0, t1, t2⟩ := open_agg3 Try.underlying24 (by kernel_rfl) (by kernel_rfl) hv h
  obtain ⟨x1, e1, _, w1⟩ := DataW.trod_int Try.underlying3 t1
  obtain ⟨x2, e2, _, w2⟩ := DataW.trod_int Try.underlying3 t2
  simp only [List.cons.injEq, and_true] at e1 e2
  subst e1 e2
  obtain ⟨q1, q2⟩ := i64_fits w1
  obtain ⟨q3, q4⟩ := i64_fits w2
  rcases open_slice Try.underlying22 t0 with ⟨hcs, _⟩ | ⟨ad, len, cap, m, n', D, Pl, hcs, _, hl, hm, _⟩
  · simp only [List.cons.injEq, and_true] at hcs
    subst hcs
    exact ⟨⟨[], x1, x2⟩, ⟨none, 0, rfl, Nat.le_refl _, by simp, fun _ => rfl, fun h => by simp at h⟩, ⟨by simp, q1, q2, q3, q4⟩⟩
  · simp only [List.cons.injEq, and_true] at hcs
    subst hcs
    obtain ⟨_, hr⟩ := open_recs (e := 55) Try.underlying22 Try.underlying55 (by kernel_rfl) (by kernel_rfl) (by decide) t0
    by_cases h0 : len = 0
    · subst h0
      exact ⟨⟨[], x1, x2⟩, ⟨some ad, cap, rfl, hl, hm, (fun h => (by cases h)), (fun h => (by simp at h))⟩, ⟨by simp, q1, q2, q3, q4⟩⟩
    obtain ⟨b, off, e, hlt, hc⟩ := hr (by omega)
    injection e with e
    subst e
    obtain ⟨l, rfl, hw, hl2⟩ := ins_list (w := w) (b := b) (off := off) len (fun k hk => by
      obtain ⟨u0, c0, k0⟩ := hc k hk 0 (by decide)
      obtain ⟨u1, c1, k1⟩ := hc k hk 1 (by decide)
      obtain ⟨u2, c2, k2⟩ := hc k hk 2 (by decide)
      obtain ⟨u3, c3, k3⟩ := hc k hk 3 (by decide)
      obtain ⟨u4, c4, k4⟩ := hc k hk 4 (by decide)
      obtain ⟨u5, c5, k5⟩ := hc k hk 5 (by decide)
      obtain ⟨u6, c6, k6⟩ := hc k hk 6 (by decide)
      obtain ⟨u7, c7, k7⟩ := hc k hk 7 (by decide)
      obtain ⟨_, _, s0⟩ := k0 _ rfl
      obtain ⟨_, _, s1⟩ := k1 _ rfl
      obtain ⟨_, _, s2⟩ := k2 _ rfl
      obtain ⟨_, _, s3⟩ := k3 _ rfl
      obtain ⟨_, _, s4⟩ := k4 _ rfl
      obtain ⟨_, _, s5⟩ := k5 _ rfl
      obtain ⟨_, _, s6⟩ := k6 _ rfl
      obtain ⟨_, _, s7⟩ := k7 _ rfl
      obtain ⟨n0, e0, _, w0⟩ := DataW.trod_int Try.underlying3 s0
      obtain ⟨n1, e1, _, w1⟩ := DataW.trod_int Try.underlying3 s1
      obtain ⟨n2, e2, _, w2⟩ := DataW.trod_int Try.underlying3 s2
      obtain ⟨n3, e3, _, w3⟩ := DataW.trod_int Try.underlying3 s3
      obtain ⟨n4, e4, _, w4⟩ := DataW.trod_int Try.underlying3 s4
      obtain ⟨n5, e5, _, w5⟩ := DataW.trod_int Try.underlying3 s5
      obtain ⟨n6, e6, _, w6⟩ := DataW.trod_int Try.underlying49 s6
      obtain ⟨n7, e7, _, w7⟩ := DataW.trod_int Try.underlying3 s7
      simp only [List.cons.injEq, and_true] at e0 e1 e2 e3 e4 e5 e6 e7
      subst e0 e1 e2 e3 e4 e5 e6 e7
      refine ⟨⟨n0, n1, n2, n3, n4, n5, n6, n7⟩, ?_, fun j hj => ?_⟩
      · obtain ⟨a0, b0⟩ := i64_fits w0
        obtain ⟨a1, b1⟩ := i64_fits w1
        obtain ⟨a2, b2⟩ := i64_fits w2
        obtain ⟨a3, b3⟩ := i64_fits w3
        obtain ⟨a4, b4⟩ := i64_fits w4
        obtain ⟨a5, b5⟩ := i64_fits w5
        obtain ⟨a6, b6⟩ := u32_bounds w6
        obtain ⟨a7, b7⟩ := i64_fits w7
        constructor <;> assumption
      · match j, hj with
        | 0, _ => exact c0
        | 1, _ => exact c1
        | 2, _ => exact c2
        | 3, _ => exact c3
        | 4, _ => exact c4
        | 5, _ => exact c5
        | 6, _ => exact c6
        | 7, _ => exact c7)
    exact ⟨⟨l, x1, x2⟩, ⟨some ⟨b, off, none⟩, cap, rfl, hl, hm, fun h => (by cases h), fun _ => ⟨b, off, rfl, hlt, hl2⟩⟩, ⟨hw, q1, q2, q3, q4⟩⟩
end Go.Proofs.Ytpinpipjlongaaa
