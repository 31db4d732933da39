/- Copies of integers: append([]T{}, xs...). Over any program. -/
import Derived.Test.YtipekdeghelpaaaEnM
import Derived.ArgAppend
namespace Go.Proofs.Ytipekdeghelpaaa
open Go.ChangeShapes Go.WideShapes Go.ChangeAt Go.RowKit
set_option linter.unusedVariables false

theorem given_add {k : IntKind} {w : World} {b off : Nat} {xs : List Int} (hc : ∀ i, i < xs.length → w.cell? ⟨b, off + i, none⟩ = some (.int k (nth xs i))) :
    ∀ j v, (xs.map (Value.int k))[j]? = some v → w.cell? ((⟨b, off, none⟩ : Addr).add j) = some v := by
  intro j v hj
  have hl : j < xs.length := by have := (List.getElem?_eq_some_iff.1 hj).1; simpa using this
  rw [List.getElem?_map, nth_get hl] at hj
  have e : (⟨b, off, none⟩ : Addr).add j = ⟨b, off + j, none⟩ := by unfold Addr.add; split <;> simp_all
  rw [e, hc j hl, ← hj]; rfl

/-- An empty slice that isn't nil; a copy of integers. -/
def Emp (base : Nat) (t : TypeId) (v : Value) (W : World) : Prop := ∃ b, v = .slice (some ⟨b, 0, none⟩) 0 0 ∧ Bk W b t #[] ∧ base ≤ b
def Cpy (base : Nat) (k : IntKind) (t : TypeId) (xs : List Int) (v : Value) (W : World) : Prop := ∃ q cap, v = .slice (some ⟨q, 0, none⟩) xs.length cap ∧ Lst k t W (.slice (some ⟨q, 0, none⟩) xs.length cap) xs ∧ base ≤ q
section
variable {base : Nat} {k : IntKind} {t : TypeId} {xs : List Int} {v : Value} {W W' : World}
theorem Emp.below (h : Emp base t v W) (hb : Below W.heap.size W W') : Emp base t v W' := by
  obtain ⟨b, e, h1, h2⟩ := h
  exact ⟨b, e, (hb.block _ h1.lt).trans h1, h2⟩
theorem Cpy.within {S : Nat → Prop} (h : Cpy base k t xs v W) (hw : Within W W' S) (hn : ∀ q, v.ownBlock = some q → ¬ S q) : Cpy base k t xs v W' := by
  obtain ⟨q, cap, e, h1, h2⟩ := h
  subst e
  exact ⟨q, cap, rfl, h1.within hw hn, h2⟩
theorem Cpy.below (h : Cpy base k t xs v W) (hb : Below W.heap.size W W') : Cpy base k t xs v W' := h.within (within_of_below hb) (by simp)
end

theorem run_cpy {k : IntKind} {t ts : TypeId} {bytes : Nat} (hinfo : (Try.prog.info? t).map (fun i => (i.zero, i.size, i.bytes)) = some (some (.int k 0), 1, bytes)) (hby : bytes ≤ 8) (hu : Try.prog.underlying ts = some (.slice t)) {W : World} {b cap0 : Nat} {a0 : Option Addr} {xs : List Int} (hb : Bk W b t #[]) (h : Given k W a0 xs) (hm : xs.length ≤ 100000) (base : Nat) (hbb : base ≤ b) (hbW : base ≤ W.heap.size) :
    ∃ v' W', (Builtin.append_ #[ts, ts] ts #[.slice (some ⟨b, 0, none⟩) 0 0, .slice a0 xs.length cap0]).run Try.prog W = .ok v' W' ∧ Cpy base k t xs v' W' ∧ Below W.heap.size W W' := by
  obtain ⟨i0, hi0, hz0, hz1, hz2⟩ := info_parts hinfo
  by_cases h0 : xs = []
  · subst h0
    refine ⟨.slice (some ⟨b, 0, none⟩) 0 0, W, ?_, ⟨b, 0, rfl, ⟨rfl, .inr ⟨b, 0, #[], rfl, Nat.zero_le _, hb, Nat.le_refl _, Nat.zero_le _, rfl, rfl⟩⟩, hbb⟩, Below.refl _ _⟩
    have hl : ∀ (x : Addr), (loadCells x 0).run Try.prog W = .ok #[] W := fun x => by simpa using run_loadCells_list (P := Try.prog) W x [] (by simp)
    cases a0 <;> simp [Builtin.append_, run_underlying hu, sizeOf, typeInfo, hi0, Builtin.lenOf, Builtin.firstCells, storeCells, hl]
  · obtain ⟨b', off, rfl, hlt, hc⟩ := h (List.length_pos_iff.2 h0)
    have hpos : 0 < xs.length := List.length_pos_iff.2 h0
    obtain ⟨v', W', hr, ho, hg⟩ := run_append_arg_grows (P := Try.prog) W ts ts t i0 _ 1 bytes hu hi0 hz0 hz1 hz2 rfl (by omega) ⟨b, 0, none⟩ 0 0 [] rfl (by simp) ⟨b', off, none⟩ xs.length cap0 (xs.map (Value.int k)) (by simp) (given_add hc) (by omega) (by unfold maxLen; omega) (by
      have : (0 + xs.length) * bytes ≤ 100000 * 8 := Nat.mul_le_mul (by omega) hby
      omega)
    simp only [List.nil_append, Nat.zero_add] at ho
    rcases ho.2 with ⟨_, h0'⟩ | ⟨g, cap, cur, rfl, hgb, rest⟩
    · omega
    · exact ⟨_, W', hr, ⟨g, cap, rfl, ⟨ho.1, .inr ⟨g, cap, cur, rfl, Nat.zero_le _, rest⟩⟩, by omega⟩, below_of_grown hg⟩
theorem given_lst {k : IntKind} {t : TypeId} {W : World} {q cap : Nat} {xs : List Int} (h : Lst k t W (.slice (some ⟨q, 0, none⟩) xs.length cap) xs) : Given k W (some ⟨q, 0, none⟩) xs := by
  intro h0
  obtain ⟨a, c, e, _, _, h3⟩ := h.is
  obtain ⟨g, e2, e3, _, h4⟩ := h3 h0
  simp only [Value.slice.injEq] at e
  rw [← e.1] at e2
  simp only [Option.some.injEq, Addr.mk.injEq, and_true] at e2
  subst e2
  exact ⟨q, 0, rfl, h.lt e3, fun i hi => by rw [Nat.zero_add]; exact h4 i hi⟩
theorem lst_len {k : IntKind} {t : TypeId} {W : World} {q cap n : Nat} {xs : List Int} (h : Lst k t W (.slice (some ⟨q, 0, none⟩) n cap) xs) : n = xs.length := by
  obtain ⟨a, c, e, _⟩ := h.is
  simp only [Value.slice.injEq] at e
  exact e.2.1

end Go.Proofs.Ytipekdeghelpaaa
