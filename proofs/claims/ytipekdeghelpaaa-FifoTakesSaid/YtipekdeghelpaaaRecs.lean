/- A slice of structs that came in, whose fields are one cell each: where each field of each struct lies, and that it reads as its type says. Over any program. -/
import Derived.Test.YtipekdeghelpaaaMem
import Derived.ProofKit
import Derived.OpenShut
import Derived.Deep.Fields
import Derived.Deep.Slices
import Derived.ChangeSame
namespace Go.Proofs.Ytipekdeghelpaaa
open Go.ChangeShapes Go.WideShapes Go.ChangeAt Go.RowKit Go.Deep

/-- Where there is a struct, all lie from one place on; field j of struct i is the cell i * S + j behind it, and is what 'what j' says. -/
def Recs (w : World) (a : Option Addr) (len S : Nat) (what : Nat → Value → Prop) : Prop :=
  0 < len → ∃ b off, a = some ⟨b, off, none⟩ ∧ b < w.heap.size ∧ ∀ i, i < len → ∀ j, j < S → ∃ u, w.cell? ⟨b, off + i * S + j, none⟩ = some u ∧ what j u

theorem Recs.at_ {w : World} {a : Option Addr} {len S : Nat} {what : Nat → Value → Prop} (h : Recs w a len S what) {i : Nat} (hi : i < len) {wr : World} (hb : Below w.heap.size w wr) :
    ∃ b off, a = some ⟨b, off, none⟩ ∧ ∀ j, j < S → ∃ u, wr.cell? ⟨b, off + i * S + j, none⟩ = some u ∧ what j u := by
  obtain ⟨b, off, e, hlt, hc⟩ := h (by omega)
  refine ⟨b, off, e, fun j hj => ?_⟩
  obtain ⟨u, hu, hw⟩ := hc i hi j hj
  exact ⟨u, (hb.cell (p := ⟨b, off + i * S + j, none⟩) hlt).trans hu, hw⟩

section
variable {H : Type} {enc : TypeId × Value → H} {P : Program} {w : World} {base : Nat} {spare : Nat → Bool} {held : Bool}
theorem weightsAll_mem {e : TypeId} {ds : List (DataW H)} {d : DataW H} (h : d ∈ ds) : ∀ q ∈ d.weights P e, q ∈ DataW.weightsAll P e ds := by
  intro q hq
  induction ds with
  | nil => simp at h
  | cons d' r ih =>
    simp only [DataW.weightsAll, List.mem_append]
    rcases List.mem_cons.1 h with rfl | h
    · exact .inl hq
    · exact .inr (ih h)
theorem weightsEach_mem {ts : List TypeId} {ds : List (DataW H)} {j : Nat} {t : TypeId} {d : DataW H} (ht : ts[j]? = some t) (hd : ds[j]? = some d) : ∀ q ∈ d.weights P t, q ∈ DataW.weightsEach P ts ds := by
  intro q hq
  induction ts generalizing ds j with
  | nil => simp at ht
  | cons t0 ts ih =>
    cases ds with
    | nil => simp at hd
    | cons d0 ds =>
      simp only [DataW.weightsEach, List.mem_append]
      cases j with
      | zero =>
        simp only [List.getElem?_cons_zero, Option.some.injEq] at ht hd
        subst ht; subst hd
        exact .inl hq
      | succ j => exact .inr (ih (by simpa using ht) (by simpa using hd))

/-- .. and what each field weighs is among what the slice weighs. -/
theorem open_recs_w {t e : TypeId} {fs : Array Field} {fuel : Nat} {a : Option Addr} {len cap : Nat} {x : DataW H × List MemPlace} (ht : P.underlying t = some (.slice e)) (he : P.underlying e = some (.struct fs))
    (hone : oneCellFields P fs = true) (hC : P.cellsOf e = fs.size) (h0 : 0 < fs.size) (h : DataW.trod enc P w base spare held fuel t [.slice a len cap] = some x) :
    len ≤ maxLen ∧ Recs w a len fs.size (fun j u => ∀ f, fs[j]? = some f → ∃ n y, DataW.trod enc P w base spare held n f.type [u] = some y ∧ ∀ q ∈ y.1.weights P f.type, q ∈ x.1.weights P t) := by
  rcases open_slice ht h with ⟨hcs, _⟩ | ⟨ad, l, c, m, n, D, Pl, hcs, _, hl, hm, hmm, hX, hx⟩
  · simp only [List.cons.injEq, Value.slice.injEq, and_true] at hcs
    obtain ⟨rfl, rfl, rfl⟩ := hcs
    exact ⟨by simp, fun hh => absurd hh (by omega)⟩
  · simp only [List.cons.injEq, Value.slice.injEq, and_true] at hcs
    obtain ⟨rfl, rfl, rfl⟩ := hcs
    refine ⟨by omega, fun hlen => ?_⟩
    have hml : len ≤ m := by rw [hmm]; split <;> omega
    have hcell : ∀ i, i < len → ∀ j, j < fs.size → ∃ u, w.cell? (ad.add (i * fs.size + j)) = some u ∧ ∀ f, fs[j]? = some f → ∃ n y, DataW.trod enc P w base spare held n f.type [u] = some y ∧ ∀ q ∈ y.1.weights P f.type, q ∈ x.1.weights P t := by
      intro i hi j hj
      obtain ⟨cs', hc, ht'⟩ := hx i (by omega)
      rw [hC] at hc
      obtain ⟨ys, n', _, hys, hlen', hyl, hf⟩ := DataW.trod_struct he ht'
      obtain ⟨_, hcl, hat⟩ := World.cells?_some hc
      have hjc : j < cs'.length := by omega
      refine ⟨cs'[j], ?_, fun f hj' => ?_⟩
      · have := hat j hj
        rw [Go.Deep.add_add] at this
        rw [this, List.getElem?_eq_getElem hjc]
      · obtain ⟨ho, hk⟩ := hone_of hone j f hj'
        have h1 := hf j f hj'
        rw [ho, hk, List.drop_eq_getElem_cons hjc] at h1
        have hyj : j < ys.length := by omega
        refine ⟨n', _, h1.trans (List.getElem?_eq_getElem hyj), fun q hq => ?_⟩
        rw [hX]
        simp only [DataW.weights, ht, List.mem_cons, List.mem_append]
        right; left
        refine weightsAll_mem (d := D i) (List.mem_map.2 ⟨i, List.mem_range.2 hi, rfl⟩) q ?_
        have hD : D i = .agg (ys.map (·.1)) := by injection hys
        rw [hD]
        simp only [DataW.weights, he]
        refine weightsEach_mem (j := j) (t := f.type) (d := ys[j].1) ?_ ?_ q hq
        · rw [List.getElem?_map, Array.getElem?_toList, hj']; rfl
        · rw [List.getElem?_map, List.getElem?_eq_getElem hyj]; rfl
    obtain ⟨u0, hu0, _⟩ := hcell 0 hlen 0 h0
    have e0 : ad.add (0 * fs.size + 0) = ad := by unfold Addr.add; simp
    rw [e0] at hu0
    obtain ⟨_, _, _, _, hsp⟩ := World.shape?_of_cell? hu0
    obtain ⟨b, off, sp⟩ := ad
    simp only at hsp
    subst hsp
    refine ⟨b, off, rfl, World.block_lt_of_cell? w _ hu0, fun i hi j hj => ?_⟩
    obtain ⟨u, hu, hw⟩ := hcell i hi j hj
    refine ⟨u, ?_, hw⟩
    have e1 : (⟨b, off, none⟩ : Addr).add (i * fs.size + j) = ⟨b, off + i * fs.size + j, none⟩ := by
      rw [Nat.add_assoc]; unfold Addr.add; split
      · rename_i hz; rw [hz]; rfl
      · rfl
    rw [← e1]; exact hu
theorem open_recs {t e : TypeId} {fs : Array Field} {fuel : Nat} {a : Option Addr} {len cap : Nat} {x : DataW H × List MemPlace} (ht : P.underlying t = some (.slice e)) (he : P.underlying e = some (.struct fs))
    (hone : oneCellFields P fs = true) (hC : P.cellsOf e = fs.size) (h0 : 0 < fs.size) (h : DataW.trod enc P w base spare held fuel t [.slice a len cap] = some x) :
    len ≤ maxLen ∧ Recs w a len fs.size (fun j u => ∀ f, fs[j]? = some f → ∃ n y, DataW.trod enc P w base spare held n f.type [u] = some y) := by
  obtain ⟨hl, hr⟩ := open_recs_w ht he hone hC h0 h
  refine ⟨hl, fun h1 => ?_⟩
  obtain ⟨b, off, e, hlt, hc⟩ := hr h1
  refine ⟨b, off, e, hlt, fun i hi j hj => ?_⟩
  obtain ⟨u, hu, hw⟩ := hc i hi j hj
  exact ⟨u, hu, fun f hf => by obtain ⟨n, y, hy, _⟩ := hw f hf; exact ⟨n, y, hy⟩⟩
end
end Go.Proofs.Ytipekdeghelpaaa
