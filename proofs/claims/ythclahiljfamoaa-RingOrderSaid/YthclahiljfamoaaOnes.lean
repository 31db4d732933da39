/- A slice that came in, of elements of one cell each: where each lies, and that it reads as its type says. Over any program. -/
import Derived.Test.YthclahiljfamoaaRecs
namespace Go.Proofs.Ythclahiljfamoaa
open Go.ChangeShapes Go.WideShapes Go.ChangeAt Go.RowKit Go.Deep

/-- Where there is an element, all lie from one place on, one cell each; each is what 'what' says. -/
def Ones (w : World) (a : Option Addr) (len : Nat) (what : Value → Prop) : Prop :=
  0 < len → ∃ b off, a = some ⟨b, off, none⟩ ∧ b < w.heap.size ∧ ∀ i, i < len → ∃ u, w.cell? ⟨b, off + i, none⟩ = some u ∧ what u
theorem Ones.at_ {w : World} {a : Option Addr} {len : Nat} {what : Value → Prop} (h : Ones w a len what) {i : Nat} (hi : i < len) {wr : World} (hb : Below w.heap.size w wr) :
    ∃ b off u, a = some ⟨b, off, none⟩ ∧ wr.cell? ⟨b, off + i, none⟩ = some u ∧ what u := by
  obtain ⟨b, off, e, hlt, hc⟩ := h (by omega)
  obtain ⟨u, hu, hw⟩ := hc i hi
  exact ⟨b, off, u, e, (hb.cell (p := ⟨b, off + i, none⟩) hlt).trans hu, hw⟩
theorem Ones.imp {w : World} {a : Option Addr} {len : Nat} {what what' : Value → Prop} (h : Ones w a len what) (k : ∀ u, what u → what' u) : Ones w a len what' := fun h0 => by
  obtain ⟨b, off, e, hlt, hc⟩ := h h0
  refine ⟨b, off, e, hlt, fun i hi => ?_⟩
  obtain ⟨u, hu, hw⟩ := hc i hi
  exact ⟨u, hu, k u hw⟩

section
variable {H : Type} {enc : TypeId × Value → H} {P : Program} {w : World} {base : Nat} {spare : Nat → Bool} {held : Bool}
theorem open_ones {t e : TypeId} {fuel : Nat} {a : Option Addr} {len cap : Nat} {x : DataW H × List MemPlace} (ht : P.underlying t = some (.slice e)) (hC : P.cellsOf e = 1)
    (h : DataW.trod enc P w base spare held fuel t [.slice a len cap] = some x) :
    len ≤ maxLen ∧ Ones w a len (fun u => ∃ n y, DataW.trod enc P w base spare held n e [u] = some y) := by
  rcases open_slice ht h with ⟨hcs, _⟩ | ⟨ad, l, c, m, n, D, Pl, hcs, _, hl, hm, hmm, _, hx⟩
  · simp only [List.cons.injEq, Value.slice.injEq, and_true] at hcs
    obtain ⟨rfl, rfl, rfl⟩ := hcs
    exact ⟨by simp, fun hh => absurd hh (by omega)⟩
  · simp only [List.cons.injEq, Value.slice.injEq, and_true] at hcs
    obtain ⟨rfl, rfl, rfl⟩ := hcs
    refine ⟨by omega, fun hlen => ?_⟩
    have hml : len ≤ m := by rw [hmm]; split <;> omega
    have hcell : ∀ i, i < len → ∃ u, w.cell? (ad.add i) = some u ∧ ∃ n y, DataW.trod enc P w base spare held n e [u] = some y := by
      intro i hi
      obtain ⟨cs', hc, ht'⟩ := hx i (by omega)
      rw [hC, Nat.mul_one] at hc
      obtain ⟨_, hcl, hat⟩ := World.cells?_some hc
      obtain ⟨u, rfl⟩ : ∃ u, cs' = [u] := by
        match cs', hcl with
        | [u], _ => exact ⟨u, rfl⟩
      refine ⟨u, ?_, _, _, ht'⟩
      have := hat 0 (by omega)
      rw [Go.Deep.add_add, Nat.add_zero] at this
      simpa using this
    obtain ⟨u0, hu0, _⟩ := hcell 0 hlen
    have e0 : ad.add 0 = ad := by unfold Addr.add; simp
    rw [e0] at hu0
    obtain ⟨_, _, _, _, hsp⟩ := World.shape?_of_cell? hu0
    obtain ⟨b, off, sp⟩ := ad
    simp only at hsp
    subst hsp
    refine ⟨b, off, rfl, World.block_lt_of_cell? w _ hu0, fun i hi => ?_⟩
    obtain ⟨u, hu, hw⟩ := hcell i hi
    refine ⟨u, ?_, hw⟩
    have e1 : (⟨b, off, none⟩ : Addr).add i = ⟨b, off + i, none⟩ := by
      unfold Addr.add; split
      · rename_i hz; rw [hz]; rfl
      · rfl
    rw [← e1]; exact hu
end
end Go.Proofs.Ythclahiljfamoaa
