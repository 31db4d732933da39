/- A map from ints to bools that the call itself has made, in which nothing but true was ever laid. -/
import Derived.Test.YtjhdpolaapbihaaDoorRow
namespace Go.Proofs.YtjhdpolaapbihaaDoor
open Go.ChangeShapes Go.WideShapes Go.ChangeAt Go.RowKit Go.Maps
set_option linter.unusedVariables false
set_option maxRecDepth 100000

theorem keyed64 : Keyed Tryd.prog 3 := int_keyed Tryd.underlying3
theorem wfi64 {x : Int} (h0 : -9223372036854775808 ≤ x) (h1 : x ≤ 9223372036854775807) : (Lit.int .i64 x).wf = true := by
  simp [Lit.wf, IntKind.min, IntKind.max, IntKind.bits, IntKind.signed]; omega
theorem key64 {x : Int} (h0 : -9223372036854775808 ≤ x) (h1 : x ≤ 9223372036854775807) : keyOf Tryd.prog 3 (.int .i64 x) = some (.int .i64 x) := keyOf_int_mk Tryd.underlying3 (wfi64 h0 h1)
theorem zeroBool12 (w : World) : (zeroValue 4).run Tryd.prog w = .ok (.bool false) w := by kernel_rfl
theorem isKey64 (x : Int) : WideAt.IsKeyLit (.int .i64 x) := by trivial
theorem lit64_ne {x y : Int} (h : y ≠ x) : (Lit.int .i64 y) ≠ .int .i64 x := fun e => h (by injection e)

/-- Block b is a map; os says which numbers are in it, each with true; c: there are no more. -/
def MapB (w : World) (b : Nat) (os : Int → Bool) (c : Nat) : Prop :=
  ∃ D : DataW Unit, w.ownsMap Tryd.prog 3 (plainElem Tryd.prog 4) b c D ∧
    ∀ x, D.atKey (.int .i64 x) (.lit (.bool false)) = .lit (.bool (os x))

section
variable {w w' : World} {b c : Nat} {os : Int → Bool}
theorem MapB.lt (h : MapB w b os c) : b < w.heap.size := by obtain ⟨D, h, _⟩ := h; exact h.lt
theorem MapB.same (h : MapB w b os c) (k : w'.heap[b]? = w.heap[b]?) : MapB w' b os c := by
  obtain ⟨D, ⟨es, clock, hb, r⟩, r'⟩ := h
  exact ⟨D, ⟨es, clock, k.trans hb, r⟩, r'⟩
theorem MapB.within {S : Nat → Prop} (h : MapB w b os c) (k : Within w w' S) (hn : ¬ S b) : MapB w' b os c := h.same (k.block b h.lt hn)
theorem MapB.below (h : MapB w b os c) (k : Below w.heap.size w w') : MapB w' b os c := h.same (k.block b h.lt)
theorem MapB.made (w : World) : MapB (w.alloc (.map #[] 0)) w.heap.size (fun _ => false) 0 :=
  ⟨.map [], World.ownsMap_made w _ _ _, fun _ => rfl⟩
theorem MapB.look (h : MapB w b os c) {x : Int} (h0 : -9223372036854775808 ≤ x) (h1 : x ≤ 9223372036854775807) : (Instr.lookup 70 (.map (some b)) (.int .i64 x) false).run Tryd.prog w = .ok (.bool (os x)) w := by
  obtain ⟨D, h, hk⟩ := h
  obtain ⟨v, ps, hrun, hv⟩ := h.lookup keyed64 Tryd.underlying70 (zeroBool12 w) (plainElem_bool Tryd.underlying4 false) (key64 h0 h1)
  rw [hk x] at hv
  rw [hrun]
  unfold plainElem at hv
  rw [Tryd.underlying4] at hv
  cases v <;> simp at hv
  rw [hv.1]
/-- One number more (it may be there). -/
theorem MapB.add (h : MapB w b os c) (hc : c < 1000000) {k : Int} (h0 : -9223372036854775808 ≤ k) (h1 : k ≤ 9223372036854775807) :
    ∃ w', (Instr.mapUpdate 70 (.map (some b)) (.int .i64 k) (.bool true)).run Tryd.prog w = .ok () w' ∧ MapB w' b (fun y => os y || decide (y = k)) (c + 1) ∧ Only w w' b := by
  obtain ⟨D, h, hh⟩ := h
  obtain ⟨w', hrun, ho, hg⟩ := h.update keyed64 Tryd.underlying70 (by unfold maxLen; omega) (key64 h0 h1) (plainElem_bool (H := Unit) Tryd.underlying4 true)
  refine ⟨w', hrun, ⟨_, ho, fun x => ?_⟩, hg⟩
  by_cases e : x = k
  · subst e
    rw [atKey_put_same h.isMap (isKey64 _)]
    simp
  · rw [atKey_put_other (lit64_ne e), hh x]
    simp [e]
end
end Go.Proofs.YtjhdpolaapbihaaDoor
