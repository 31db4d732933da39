/- A map from strings to ints that the call itself has made, as a list of names with their places; what a look-up and a store do. -/
import Derived.Test.YteohnkilchkhkaaGreatDoorRow
import Derived.Maps.OwnSet
namespace Go.Proofs.YteohnkilchkhkaaGreatDoor
open Go.ChangeShapes Go.WideShapes Go.ChangeAt Go.RowKit Go.Maps
set_option linter.unusedVariables false

theorem keyedS : Keyed Tryz.prog 9 := string_keyed Tryz.underlying9
theorem keyS (s : List UInt8) (hs : s.length ≤ 1000000) : keyOf Tryz.prog 9 (.string ⟨s.toArray⟩) = some (.string s) := by
  have h : (⟨s.toArray⟩ : ByteArray).size ≤ maxLen := by show s.toArray.size ≤ _; simp [maxLen]; omega
  simp [keyOf, mapKey, Tryz.underlying9, h]
theorem zeroInt (w : World) : (zeroValue 3).run Tryz.prog w = .ok (.int .i64 0) w := by kernel_rfl
theorem isKeyS (s : List UInt8) : WideAt.IsKeyLit (.string s) := by trivial
theorem litS_ne {x y : List UInt8} (h : y ≠ x) : (Lit.string y) ≠ .string x := fun e => h (by injection e)
theorem wf64 {x : Int} (h0 : 0 ≤ x) (h1 : x < 1000000) : (Lit.int .i64 x).wf = true := by
  simp [Lit.wf, IntKind.min, IntKind.max, IntKind.bits, IntKind.signed]; omega

/-- A label of that name stands; where (0: none stands). -/
def labB (ls : List (List UInt8 × Int)) (s : List UInt8) : Bool := ls.any fun x => x.1 == s
def labAt (ls : List (List UInt8 × Int)) (s : List UInt8) : Int := match ls.find? fun x => x.1 == s with
  | some x => x.2
  | none => 0
theorem labB_snoc (ls : List (List UInt8 × Int)) (s t : List UInt8) (p : Int) : labB (ls ++ [(t, p)]) s = (labB ls s || (t == s)) := by simp [labB]
theorem labAt_none {ls : List (List UInt8 × Int)} {s : List UInt8} (h : labB ls s = false) : ls.find? (fun x => x.1 == s) = none := by
  rw [List.find?_eq_none]
  intro x hx
  unfold labB at h
  rw [List.any_eq_false] at h
  exact h x hx
theorem labAt_snoc_same {ls : List (List UInt8 × Int)} {s : List UInt8} (h : labB ls s = false) (p : Int) : labAt (ls ++ [(s, p)]) s = p := by
  unfold labAt
  rw [List.find?_append, labAt_none h]
  simp
theorem labAt_snoc_other {ls : List (List UInt8 × Int)} {s t : List UInt8} (h : s ≠ t) (p : Int) : labAt (ls ++ [(t, p)]) s = labAt ls s := by
  have h2 : (t == s) = false := by simpa using fun e => h e.symm
  unfold labAt
  rw [List.find?_append]
  simp [h2]

/-- Block b is a map: the labels ls, each with its place. -/
def Labs (w : World) (b : Nat) (ls : List (List UInt8 × Int)) : Prop :=
  ∃ D : DataW Unit, w.ownsMap Tryz.prog 9 (plainElem Tryz.prog 3) b ls.length D ∧
    ∀ s, Maps.has D (.string s) = labB ls s ∧ D.atKey (.string s) (.lit (.int .i64 0)) = .lit (.int .i64 (labAt ls s))

section
variable {w w' : World} {b : Nat} {ls : List (List UInt8 × Int)}
theorem Labs.lt (h : Labs w b ls) : b < w.heap.size := by obtain ⟨D, h, _⟩ := h; exact h.lt
theorem Labs.not_bk {g : Nat} {t : TypeId} {cs : Array Value} (h : Labs w b ls) (k : Bk w g t cs) : b ≠ g := by
  obtain ⟨D, ⟨es, clock, hb, _⟩, _⟩ := h
  intro e; subst e; unfold Bk at k; rw [hb] at k; cases k
theorem Labs.same (h : Labs w b ls) (k : w'.heap[b]? = w.heap[b]?) : Labs w' b ls := by
  obtain ⟨D, ⟨es, clock, hb, r⟩, r'⟩ := h
  exact ⟨D, ⟨es, clock, k.trans hb, r⟩, r'⟩
theorem Labs.within {S : Nat → Prop} (h : Labs w b ls) (k : Within w w' S) (hn : ¬ S b) : Labs w' b ls := h.same (k.block b h.lt hn)
theorem Labs.made (w : World) : Labs (w.alloc (.map #[] 0)) w.heap.size [] :=
  ⟨.map [], World.ownsMap_made w _ _ _, fun _ => ⟨rfl, rfl⟩⟩
theorem Labs.look (h : Labs w b ls) (s : List UInt8) (hs : s.length ≤ 1000000) : (Instr.lookup 48 (.map (some b)) (.string ⟨s.toArray⟩) true).run Tryz.prog w = .ok (.tuple #[.int .i64 (labAt ls s), .bool (labB ls s)]) w := by
  obtain ⟨D, h, hk⟩ := h
  obtain ⟨v, ps, hrun, hv⟩ := h.look_ok keyedS Tryz.underlying48 (zeroInt w) (plainElem_int Tryz.underlying3 (by decide)) (keyS s hs)
  rw [(hk s).2] at hv
  rw [hrun, (hk s).1]
  obtain ⟨c, rfl, hc, hwc⟩ := plainElem_int_inv Tryz.underlying3 hv
  simp only [Prod.mk.injEq, DataW.lit.injEq, Lit.int.injEq, true_and] at hc
  rw [hc.1]
/-- One more label. -/
theorem Labs.add (h : Labs w b ls) (hc : ls.length < 1000000) {s : List UInt8} {p : Int} (hs : s.length ≤ 1000000) (h0 : 0 ≤ p) (h1 : p < 1000000) (hk : labB ls s = false) :
    ∃ w', (Instr.mapUpdate 48 (.map (some b)) (.string ⟨s.toArray⟩) (.int .i64 p)).run Tryz.prog w = .ok () w' ∧ Labs w' b (ls ++ [(s, p)]) ∧ Only w w' b := by
  obtain ⟨D, h, hh⟩ := h
  obtain ⟨w', hrun, ho, hg⟩ := h.update keyedS Tryz.underlying48 (by unfold maxLen; omega) (keyS s hs) (plainElem_int (H := Unit) Tryz.underlying3 (wf64 h0 h1))
  refine ⟨w', hrun, ⟨_, by simpa using ho, fun t => ?_⟩, hg⟩
  by_cases e : t = s
  · subst e
    rw [has_put_same h.isMap (isKeyS _), atKey_put_same h.isMap (isKeyS _), labB_snoc, labAt_snoc_same hk]
    simp
  · rw [has_put_other (litS_ne e), atKey_put_other (litS_ne e), labB_snoc, labAt_snoc_other e, (hh t).1, (hh t).2]
    have : (s == t) = false := by simpa using fun e2 => e e2.symm
    simp [this]
end
end Go.Proofs.YteohnkilchkhkaaGreatDoor
