/- Blocks of memory known whole, and what becomes of them when a cell is stored, a block is made, an order is drawn: over any program. -/
import Derived.Test.YtipekdeghelpaaaRows
import Derived.Handy
import Derived.IntWalk
import Derived.Below
import Derived.OneCell
import Derived.OwnWalk
import Derived.Lib.Hide
import Derived.Laws.OwnMore
import Derived.Laws.Rows
import Derived.Laws.LoneSync
import Derived.Deep.Draws
namespace Go.Proofs.Ytipekdeghelpaaa
open Go.ChangeShapes Go.WideShapes Go.ChangeAt Go.RowKit

theorem ret_int {k : IntKind} {a b : Int} (h : a = b) : Ending.returned (.int k a) = .returned (.int k b) := by rw [h]
theorem ret_bool {a b : Bool} (h : a = b) : Ending.returned (.bool a) = .returned (.bool b) := by rw [h]
theorem u32_bounds {n : Int} (h : (Lit.int .u32 n).wf = true) : 0 ≤ n ∧ n < 4294967296 := by
  simp [Lit.wf, IntKind.min, IntKind.max, IntKind.bits, IntKind.signed] at h; omega

/-- Block g of w is the cells cs, of element type t, none of them frozen. -/
def Bk (w : World) (g : Nat) (t : TypeId) (cs : Array Value) : Prop := w.heap[g]? = some (.cells cs t (0, 0))

section
variable {w w' : World} {g : Nat} {t : TypeId} {cs : Array Value}
theorem Bk.lt (h : Bk w g t cs) : g < w.heap.size := (Array.getElem?_eq_some_iff.1 h).1
theorem Bk.cell (h : Bk w g t cs) (i : Nat) : w.cell? ⟨g, i, none⟩ = cs[i]? := cell_of_row w g i cs t (0, 0) h
theorem Bk.free (h : Bk w g t cs) (i : Nat) : w.frozen? ⟨g, i, none⟩ = false := by unfold Bk at h; simp [World.frozen?, h]
theorem Bk.made (w : World) (t : TypeId) (cs : Array Value) : Bk (w.alloc (.cells cs t)) w.heap.size t cs := heap_alloc_new w _
theorem Bk.alloc (h : Bk w g t cs) (o : Obj) : Bk (w.alloc o) g t cs := (Below.heap_alloc w o g h.lt).trans h
theorem Bk.put (h : Bk w g t cs) (i : Nat) (u : Value) : Bk (w.setCell ⟨g, i, none⟩ u) g t (cs.setIfInBounds i u) := by
  unfold Bk at h ⊢; simp [World.setCell, Array.getElem?_modify, h]
theorem Bk.off (h : Bk w g t cs) {p : Addr} (hp : g ≠ p.block) (u : Value) : Bk (w.setCell p u) g t cs := (Below.heap_setCell w p u g hp).trans h
theorem Bk.grown {row : Option Nat} (h : Bk w g t cs) (hg : w.grownBy w' row) (hne : some g ≠ row) : Bk w' g t cs := (hg.block g h.lt hne).trans h
theorem Bk.drewN (h : Bk w g t cs) (n : Nat) : Bk (w.drewN n) g t cs := h
theorem Bk.unlike {g' : Nat} {t' : TypeId} {cs' : Array Value} (h : Bk w g t cs) (h' : Bk w g' t' cs') (hne : t ≠ t') : g ≠ g' := by
  intro e; subst e; unfold Bk at h h'; rw [h] at h'; injection h' with h'; injection h' with _ ht; exact hne ht
end

/-- Nothing but block g, and what is new, has changed. -/
abbrev Only (a w : World) (g : Nat) : Prop := a.grownBy w (some g)
theorem only_put (w : World) (g i : Nat) (u : Value) : Only w (w.setCell ⟨g, i, none⟩ u) g :=
  ⟨rfl, rfl, rfl, by simp [World.setCell], fun k _ hne => Below.heap_setCell w _ u k (fun e => hne (by rw [e]))⟩
theorem grown_made (w : World) (o : Obj) (r : Option Nat) : w.grownBy (w.alloc o) r := World.grownBy_alloc w o r
theorem grown_draws {a w : World} {r : Option Nat} (h : a.grownBy w r) (n : Nat) : a.grownBy (w.drewN n) r := ⟨h.os, h.tape, h.output, h.size, h.block⟩
theorem grown_refl (w : World) (r : Option Nat) : w.grownBy w r := ⟨rfl, rfl, rfl, Nat.le_refl _, fun _ _ _ => rfl⟩
theorem grown_then {a b c : World} {r s : Option Nat} (h : a.grownBy b r) (k : b.grownBy c s) (hs : s = r ∨ ∀ x, s = some x → a.heap.size ≤ x) : a.grownBy c r :=
  ⟨k.os.trans h.os, k.tape.trans h.tape, k.output.trans h.output, Nat.le_trans h.size k.size, fun i hi hne =>
    (k.block i (Nat.lt_of_lt_of_le hi h.size) (by rcases hs with e | e
                                                  · rw [e]; exact hne
                                                  · intro e'; have := e i e'.symm; omega)).trans (h.block i hi hne)⟩
theorem grown_any {a b : World} {r : Option Nat} (h : a.grownBy b none) : a.grownBy b r := ⟨h.os, h.tape, h.output, h.size, fun i hi _ => h.block i hi (by simp)⟩
theorem below_of_grown {a b : World} (h : a.grownBy b none) : Below a.heap.size a b := ⟨h.os, h.tape, h.output, h.size, fun i hi => h.block i hi (by simp)⟩
theorem grown_of_below {a b : World} (h : Below a.heap.size a b) : a.grownBy b none := ⟨h.os, h.tape, h.output, h.size, fun i hi _ => h.block i hi⟩

/-- A list's element; 0 where there is none. A plain definition, so that a walk leaves it alone. -/
def nth (xs : List Int) (i : Nat) : Int := xs.getD i 0
theorem nth_lt {xs : List Int} {i : Nat} (h : i < xs.length) : nth xs i = xs[i] := by simp [nth, h]
theorem nth_get {xs : List Int} {i : Nat} (h : i < xs.length) : xs[i]? = some (nth xs i) := by rw [nth_lt h]; exact List.getElem?_eq_getElem h
theorem nth_set {xs : List Int} {i j : Nat} {v : Int} (h : i < xs.length) : nth (xs.set i v) j = if i = j then v else nth xs j := by
  unfold nth; simp only [List.getD_eq_getElem?_getD, List.getElem?_set]
  by_cases e : i = j
  · subst e; simp [h]
  · simp [e]
/-- Words of 32 bits, as cells. -/
def words (xs : List Int) : Array Value := (xs.map (Value.int .u32)).toArray
def U32s (xs : List Int) : Prop := ∀ x ∈ xs, 0 ≤ x ∧ x < 4294967296
theorem words_size (xs : List Int) : (words xs).size = xs.length := by simp [words]
theorem words_at (xs : List Int) (i : Nat) (h : i < xs.length) : (words xs)[i]? = some (.int .u32 (nth xs i)) := by simp [words, h, nth]
theorem words_set (xs : List Int) (i : Nat) (v : Int) : (words xs).setIfInBounds i (.int .u32 v) = words (xs.set i v) := by
  unfold words; rw [List.setIfInBounds_toArray, List.map_set]
theorem U32s.at_ {xs : List Int} (h : U32s xs) (i : Nat) : 0 ≤ nth xs i ∧ nth xs i < 4294967296 := by
  unfold nth
  by_cases hi : i < xs.length
  · simp only [List.getD_eq_getElem?_getD, List.getElem?_eq_getElem hi, Option.getD_some]; exact h _ (List.getElem_mem hi)
  · simp [List.getD_eq_getElem?_getD, List.getElem?_eq_none (Nat.le_of_not_lt hi)]
theorem U32s.set {xs : List Int} (h : U32s xs) (i : Nat) (v : Int) (hv : 0 ≤ v ∧ v < 4294967296) : U32s (xs.set i v) := by
  intro x hx
  rcases List.mem_or_eq_of_mem_set hx with hx | rfl
  · exact h x hx
  · exact hv
theorem U32s.zeros (n : Nat) : U32s (List.replicate n 0) := by
  intro x hx; rw [List.eq_of_mem_replicate hx]; omega
theorem made_words (n : Nat) : madeCells #[.int .u32 0] n = words (List.replicate n 0) := by
  apply Array.ext
  · simp [madeCells, words]
  · intro i h1 h2; simp [madeCells, words, Nat.mod_one]

/-- The slice at block q, of capacity cap, has just the words xs. -/
def Wds (w : World) (q cap : Nat) (xs : List Int) : Prop := w.ownsRow 0 64 1 (.slice (some ⟨q, 0, none⟩) xs.length cap) xs.length (xs.map (Value.int .u32))
theorem Wds.lt {w : World} {q cap : Nat} {xs : List Int} (h : Wds w q cap xs) : q < w.heap.size := (World.ownsRow.lt h q rfl).2
theorem Wds.at_ {w : World} {q cap : Nat} {xs : List Int} (h : Wds w q cap xs) {i : Nat} (hi : i < xs.length) : w.cell? ⟨q, i, none⟩ = some (.int .u32 (nth xs i)) := by
  rw [World.ownsRow.cellAt h i (by omega), List.getElem?_map, nth_get hi]; rfl
theorem Wds.bk {w : World} {q cap : Nat} {xs : List Int} (h : Wds w q cap xs) : ∃ cs, Bk w q 64 cs ∧ cs.size = cap ∧ xs.length ≤ cap ∧ cap ≤ maxLen := by
  rcases h.2 with ⟨h', _⟩ | ⟨g', cap', cur, h', hb, hg, hnc, hcm, hcs, htake⟩
  · simp at h'
  · simp only [Value.slice.injEq, Option.some.injEq, Addr.mk.injEq, and_true, true_and] at h'
    obtain ⟨rfl, rfl⟩ := h'
    exact ⟨cur, hg, by omega, hnc, hcm⟩
theorem Wds.free {w : World} {q cap : Nat} {xs : List Int} (h : Wds w q cap xs) (i : Nat) : w.frozen? ⟨q, i, none⟩ = false := by
  obtain ⟨cs, hb, _⟩ := h.bk; exact hb.free i
theorem Wds.of_bk {w : World} {q : Nat} {xs : List Int} (h : Bk w q 64 (words xs)) (hn : xs.length ≤ maxLen) : Wds w q xs.length xs :=
  ⟨by simp, .inr ⟨q, xs.length, words xs, rfl, Nat.zero_le _, h, Nat.le_refl _, hn, by simp [words], by simp [words, List.take_of_length_le]⟩⟩
theorem Wds.put {w : World} {q cap : Nat} {xs : List Int} (h : Wds w q cap xs) (i : Nat) (v : Int) : Wds (w.setCell ⟨q, i, none⟩ (.int .u32 v)) q cap (xs.set i v) := by
  have := (World.ownsRow.stored h i (.int .u32 v)).1
  unfold Wds; rw [List.length_set, List.map_set]; exact this
theorem Wds.kept {w w' : World} {q cap : Nat} {xs : List Int} (h : Wds w q cap xs) {r : Option Nat} (hg : w.grownBy w' r) (hne : some q ≠ r) : Wds w' q cap xs :=
  World.ownsRow.kept h hg (.inr hne)
theorem Wds.of_own {w : World} {base n : Nat} {v : Value} {xs : List Int} (h : w.ownsRow base 64 1 v n (xs.map (Value.int .u32))) (hn : 0 < n) : ∃ q cap, v = .slice (some ⟨q, 0, none⟩) xs.length cap ∧ Wds w q cap xs ∧ base ≤ q := by
  have hl : xs.length = n := by have := h.1; simpa using this
  subst hl
  rcases h.2 with ⟨_, h0⟩ | ⟨g, cap, cur, rfl, hb, rest⟩
  · omega
  · exact ⟨g, cap, rfl, ⟨h.1, .inr ⟨g, cap, cur, rfl, Nat.zero_le _, rest⟩⟩, hb⟩
/-- A slice of words that came in: where there is one, they lie in memory that was there. -/
def Given (k : IntKind) (w : World) (a : Option Addr) (xs : List Int) : Prop :=
  0 < xs.length → ∃ b off, a = some ⟨b, off, none⟩ ∧ b < w.heap.size ∧ ∀ i, i < xs.length → w.cell? ⟨b, off + i, none⟩ = some (.int k (nth xs i))
theorem Given.at_ {k : IntKind} {w : World} {a : Option Addr} {xs : List Int} (h : Given k w a xs) {i : Nat} (hi : i < xs.length) {wr : World} (hb : Below w.heap.size w wr) :
    ∃ b off, a = some ⟨b, off, none⟩ ∧ wr.cell? ⟨b, off + i, none⟩ = some (.int k (nth xs i)) := by
  obtain ⟨b, off, e, hlt, hc⟩ := h (by omega)
  exact ⟨b, off, e, (hb.cell (p := ⟨b, off + i, none⟩) hlt).trans (hc i hi)⟩
theorem given_of {k : IntKind} {w : World} {x : Addr} {len : Nat} {zs : List Int} (hl : len ≤ zs.length) (hc : ∀ i, i < zs.length → w.cell? (x.add i) = some (.int k (zs.getD i 0))) :
    Given k w (some x) (zs.take len) := by
  intro h0
  simp only [List.length_take] at h0
  obtain ⟨b, off, sp⟩ := x
  have hadd : ∀ i, 0 < i → (⟨b, off, sp⟩ : Addr).add i = ⟨b, off + i, none⟩ := by
    intro i hi; unfold Addr.add; rw [if_neg (by omega)]
  have hc0 := hc 0 (by omega)
  have e0 : (⟨b, off, sp⟩ : Addr).add 0 = ⟨b, off, sp⟩ := by unfold Addr.add; rw [if_pos rfl]
  rw [e0] at hc0
  obtain ⟨_, _, _, _, hsp⟩ := World.shape?_of_cell? hc0
  simp only at hsp
  subst hsp
  refine ⟨b, off, rfl, World.block_lt_of_cell? w _ hc0, fun i hi => ?_⟩
  simp only [List.length_take] at hi
  have hn : nth (zs.take len) i = zs.getD i 0 := by
    unfold nth; simp only [List.getD_eq_getElem?_getD, List.getElem?_take]; rw [if_pos (by omega)]
  rw [hn]
  by_cases hi0 : i = 0
  · subst hi0; exact hc0
  · rw [← hadd i (by omega)]; exact hc i (by omega)
theorem given_nil (k : IntKind) (w : World) (a : Option Addr) : Given k w a [] := fun h => absurd h (by simp)
theorem u32s_of_wf {zs : List Int} (h : ∀ n ∈ zs, (Lit.int .u32 n).wf = true) (len : Nat) : U32s (zs.take len) := fun x hx => u32_bounds (h x (List.mem_of_mem_take hx))
theorem u32info : (Try.prog.info? 64).map (fun i => (i.zero, i.size, i.bytes)) = some (some (.int .u32 0), 1, 4) := by kernel_rfl
end Go.Proofs.Ytipekdeghelpaaa
