/- A map from words to bools that the call itself has made: which words are in it, and how many; what a look-up, len, a store and delete do. Over any program that has such a map. -/
import Derived.Test.YteeaminfhpcdmaaRow
import Derived.Maps.OwnSet
namespace Go.Proofs.Yteeaminfhpcdmaa
open Go.ChangeShapes Go.WideShapes Go.ChangeAt Go.RowKit Go.Maps

theorem keyed32 : Keyed Try.prog 31 := int_keyed Try.underlying31
theorem wf32 {x : Int} (h0 : 0 ≤ x) (h1 : x < 4294967296) : (Lit.int .u32 x).wf = true := by
  simp [Lit.wf, IntKind.min, IntKind.max, IntKind.bits, IntKind.signed]; omega
theorem key32 {x : Int} (h0 : 0 ≤ x) (h1 : x < 4294967296) : keyOf Try.prog 31 (.int .u32 x) = some (.int .u32 x) := keyOf_int_mk Try.underlying31 (wf32 h0 h1)
theorem zeroBool (w : World) : (zeroValue 4).run Try.prog w = .ok (.bool false) w := by kernel_rfl
theorem isKey32 (x : Int) : WideAt.IsKeyLit (.int .u32 x) := by trivial
theorem lit32_ne {x y : Int} (h : y ≠ x) : (Lit.int .u32 y) ≠ .int .u32 x := fun e => h (by injection e)

/-- What one word is, is another. -/
def turn (os : Int → Bool) (x : Int) (v : Bool) : Int → Bool := fun y => if y = x then v else os y
theorem turn_same (os : Int → Bool) (x : Int) (v : Bool) : turn os x v x = v := by simp [turn]
theorem turn_other {os : Int → Bool} {x y : Int} {v : Bool} (h : y ≠ x) : turn os x v y = os y := by simp [turn, h]

/-- Block b is a map; os says which words are in it, each with true; they are c. -/
def Outs (w : World) (b : Nat) (os : Int → Bool) (c : Nat) : Prop :=
  ∃ D : DataW Unit, w.ownsMap Try.prog 31 (plainElem Try.prog 4) b c D ∧ size D = c ∧
    ∀ x, 0 ≤ x → x < 4294967296 → Maps.has D (.int .u32 x) = os x ∧ D.atKey (.int .u32 x) (.lit (.bool false)) = .lit (.bool (os x))

section
variable {w w' : World} {b c : Nat} {os : Int → Bool}
theorem ownsMap_tight {D : DataW Unit} {n : Nat} {k : TypeId} {R : Value → Option (DataW Unit × List MemPlace)} (h : w.ownsMap Try.prog k R b n D) : w.ownsMap Try.prog k R b (size D) D := by
  obtain ⟨es, clock, hb, F, hs, rfl⟩ := h
  exact ⟨es, clock, hb, F, by simp [Maps.size, length_sorted], rfl⟩
theorem Outs.lt (h : Outs w b os c) : b < w.heap.size := by obtain ⟨D, h, _⟩ := h; exact h.lt
theorem Outs.not_bk {g : Nat} {t : TypeId} {cs : Array Value} (h : Outs w b os c) (k : Bk w g t cs) : b ≠ g := by
  obtain ⟨D, ⟨es, clock, hb, _⟩, _⟩ := h
  intro e; subst e; unfold Bk at k; rw [hb] at k; cases k
theorem Outs.within {S : Nat → Prop} (h : Outs w b os c) (k : Within w w' S) (hn : ¬ S b) : Outs w' b os c := by
  have hl := h.lt
  obtain ⟨D, ⟨es, clock, hb, r⟩, r'⟩ := h
  exact ⟨D, ⟨es, clock, (k.block b hl hn).trans hb, r⟩, r'⟩
theorem Outs.drewN (h : Outs w b os c) (n : Nat) : Outs (w.drewN n) b os c := h
theorem Outs.made (w : World) : Outs (w.alloc (.map #[] 0)) w.heap.size (fun _ => false) 0 :=
  ⟨.map [], World.ownsMap_made w _ _ _, rfl, fun _ _ _ => ⟨rfl, rfl⟩⟩
theorem Outs.look (h : Outs w b os c) {x : Int} (h0 : 0 ≤ x) (h1 : x < 4294967296) : (Instr.lookup 53 (.map (some b)) (.int .u32 x) false).run Try.prog w = .ok (.bool (os x)) w := by
  obtain ⟨D, h, _, hk⟩ := h
  obtain ⟨v, ps, hrun, hv⟩ := h.lookup keyed32 Try.underlying53 (zeroBool w) (plainElem_bool Try.underlying4 false) (key32 h0 h1)
  rw [(hk x h0 h1).2] at hv
  rw [hrun]
  unfold plainElem at hv
  rw [Try.underlying4] at hv
  cases v <;> simp at hv
  rw [hv.1]
theorem Outs.len (h : Outs w b os c) (ty : TypeId) : (Builtin.len_ #[53] ty #[.map (some b)]).run Try.prog w = .ok (.int .i64 c) w := by
  obtain ⟨D, h, hs, _⟩ := h
  rw [← hs]
  exact h.len Try.underlying53 ty
theorem turn_has {D : DataW Unit} {os : Int → Bool} (hD : IsMap D) (hk : ∀ x, 0 ≤ x → x < 4294967296 → Maps.has D (.int .u32 x) = os x ∧ D.atKey (.int .u32 x) (.lit (.bool false)) = .lit (.bool (os x))) (k : Int) :
    ∀ x, 0 ≤ x → x < 4294967296 → Maps.has (D.put (.int .u32 k) (.lit (.bool true))) (.int .u32 x) = turn os k true x ∧ (D.put (.int .u32 k) (.lit (.bool true))).atKey (.int .u32 x) (.lit (.bool false)) = .lit (.bool (turn os k true x)) := by
  intro x h0 h1
  by_cases e : x = k
  · subst e; rw [turn_same]; exact ⟨has_put_same hD (isKey32 _) _, atKey_put_same hD (isKey32 _) _ _⟩
  · rw [turn_other e, has_put_other (lit32_ne e), atKey_put_other (lit32_ne e)]; exact hk x h0 h1
theorem turn_hasnt {D : DataW Unit} {os : Int → Bool} (hk : ∀ x, 0 ≤ x → x < 4294967296 → Maps.has D (.int .u32 x) = os x ∧ D.atKey (.int .u32 x) (.lit (.bool false)) = .lit (.bool (os x))) (k : Int) :
    ∀ x, 0 ≤ x → x < 4294967296 → Maps.has (D.del (.int .u32 k)) (.int .u32 x) = turn os k false x ∧ (D.del (.int .u32 k)).atKey (.int .u32 x) (.lit (.bool false)) = .lit (.bool (turn os k false x)) := by
  intro x h0 h1
  by_cases e : x = k
  · subst e; rw [turn_same]; exact ⟨has_del_same, atKey_del_same _⟩
  · rw [turn_other e, has_del_other (lit32_ne e), atKey_del_other (lit32_ne e)]; exact hk x h0 h1

/-- One more word. -/
theorem Outs.add (h : Outs w b os c) (hc : c < 1000000) {k : Int} (h0 : 0 ≤ k) (h1 : k < 4294967296) (hk : os k = false) :
    ∃ w', (Instr.mapUpdate 53 (.map (some b)) (.int .u32 k) (.bool true)).run Try.prog w = .ok () w' ∧ Outs w' b (turn os k true) (c + 1) ∧ Only w w' b := by
  obtain ⟨D, h, hs, hh⟩ := h
  obtain ⟨w', hrun, ho, hg⟩ := h.update keyed32 Try.underlying53 (by unfold maxLen; omega) (key32 h0 h1) (plainElem_bool (H := Unit) Try.underlying4 true)
  refine ⟨w', hrun, ⟨_, ho, ?_, turn_has h.isMap hh k⟩, hg⟩
  rw [size_put (h.tidy keyed32), (hh k h0 h1).1, hk, hs]; simp
end

section
variable {ops : Array Oper} {rest : List Oper} {o : Oper} {a : Act} {Q : Exit → Act → World → Prop} {w : World} {b c : Nat} {os : Int → Bool}
/-- One word fewer: delete, at the operation. -/
theorem wpOutsDrop (hg : o.guard = none) (m x : Operand) (hop : o.op = Op.call { callee := Callee.builtin Builtin.delete, args := #[m, x], argTypes := #[53, 31] })
    (hm : a.eval m = .map (some b)) (h : Outs w b os c) {k : Int} (h0 : 0 ≤ k) (h1 : k < 4294967296) (hx : a.eval x = .int .u32 k) (hk : os k = true)
    (hK : ∀ w', Outs w' b (turn os k false) (c - 1) → Only w w' b → wpList Try.prog ops Q rest (a.put o.dst (.tuple #[])) w') : wpList Try.prog ops Q (o :: rest) a w := by
  obtain ⟨D, h, hs, hh⟩ := h
  refine wpList_delete_own w hg m x 53 31 hop 4 keyed32 Try.underlying53 _ b c D hm h _ _ hx (key32 h0 h1) fun w' h' ht => ?_
  have hsz := size_del (k := .int .u32 k) (h.tidy keyed32)
  rw [(hh k h0 h1).1, hk, hs] at hsz
  have hsz' : size (D.del (.int .u32 k)) = c - 1 := by simp at hsz; omega
  refine hK w' ⟨_, ?_, hsz', turn_hasnt hh k⟩ ht.grown
  rw [← hsz']
  exact ownsMap_tight h'
end
end Go.Proofs.Yteeaminfhpcdmaa
