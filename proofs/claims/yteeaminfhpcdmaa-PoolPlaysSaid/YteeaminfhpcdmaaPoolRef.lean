/- The document's own pool in memory, and what its calls do: first part. -/
import Derived.Test.YteeaminfhpcdmaaPoolSame
import Derived.Test.YteeaminfhpcdmaaLst
import Derived.ArgAppend
namespace Go.Proofs.Yteeaminfhpcdmaa
open Go.ChangeShapes Go.WideShapes Go.ChangeAt Go.RowKit

/-- The value v is a slice of just the values us, in a row of its own (or nil). -/
def Vls (t : TypeId) (w : World) (v : Value) (us : List Value) : Prop := w.ownsRow 0 t 1 v us.length us
section
variable {t : TypeId} {w w' : World} {v : Value} {us : List Value}
theorem Vls.nil (t : TypeId) (w : World) : Vls t w (.slice none 0 0) [] := World.ownsRow_nil _ _ _ _
theorem Vls.lt (h : Vls t w v us) {g : Nat} (e : v.ownBlock = some g) : g < w.heap.size := (World.ownsRow.lt h g e).2
theorem Vls.bk (h : Vls t w v us) {g : Nat} (e : v.ownBlock = some g) : ∃ cs, Bk w g t cs := by
  rcases h.2 with ⟨rfl, _⟩ | ⟨g', cap, cur, rfl, _, hg, _⟩
  · cases e
  · simp only [Value.ownBlock, Option.some.injEq] at e; subst e; exact ⟨cur, hg⟩
theorem Vls.within {S : Nat → Prop} (h : Vls t w v us) (hk : Within w w' S) (hn : ∀ g, v.ownBlock = some g → ¬ S g) : Vls t w' v us := by
  rcases h.2 with ⟨rfl, h0⟩ | ⟨g, cap, cur, rfl, hb, hg, r⟩
  · exact ⟨h.1, .inl ⟨rfl, h0⟩⟩
  · exact ⟨h.1, .inr ⟨g, cap, cur, rfl, hb, (hk.block g (Array.getElem?_eq_some_iff.1 hg).1 (hn g rfl)).trans hg, r⟩⟩
theorem Vls.alloc (h : Vls t w v us) (o : Obj) : Vls t (w.alloc o) v us := World.ownsRow.alloc h o
theorem Vls.is (h : Vls t w v us) : ∃ a cap, v = .slice a us.length cap ∧ us.length ≤ cap ∧ cap ≤ maxLen ∧ (0 < us.length → ∃ g, a = some ⟨g, 0, none⟩ ∧ v.ownBlock = some g ∧ (∀ i, w.frozen? ⟨g, i, none⟩ = false) ∧ ∀ i, w.cell? ⟨g, i, none⟩ = us[i]? ∨ us.length ≤ i) := by
  rcases h.2 with ⟨rfl, h0⟩ | ⟨g, cap, cur, rfl, hb, hg, hnc, hcm, r⟩
  · exact ⟨none, 0, by rw [h0], by omega, by simp, fun h => by omega⟩
  · refine ⟨some ⟨g, 0, none⟩, cap, rfl, hnc, hcm, fun _ => ⟨g, rfl, rfl, fun i => Bk.free (cs := cur) (t := t) hg i, fun i => ?_⟩⟩
    by_cases hi : i < us.length
    · exact .inl (World.ownsRow.cellAt h i (by omega))
    · exact .inr (by omega)
theorem Vls.put {g cap : Nat} (h : Vls t w (.slice (some ⟨g, 0, none⟩) us.length cap) us) (i : Nat) (u : Value) : Vls t (w.setCell ⟨g, i, none⟩ u) (.slice (some ⟨g, 0, none⟩) us.length cap) (us.set i u) := by
  have := (World.ownsRow.stored h i u).1
  unfold Vls; rw [List.length_set]; exact this
end
section
variable {t : TypeId} {w : World} {v : Value} {us : List Value} {P : Program} {ops : Array Oper} {rest : List Oper} {o : Oper} {a : Act} {Q : Exit → Act → World → Prop}
/-- append of one value, which the translation has laid in a block of its own. -/
theorem wpVlsApp (hgd : o.guard = none) (s x : Operand) (ts : TypeId) (ho : o.op = .call { callee := .builtin .append, args := #[s, x], argTypes := #[ts, ts] })
    (z : Value) (bytes : Nat) (ht : P.underlying ts = some (.slice t)) (hi : (P.info? t).map (fun i => (i.zero, i.size, i.bytes)) = some (some z, 1, bytes)) (hz : z.cells.size = 1) (hby : bytes ≤ 24)
    (h : Vls t w v us) (hs : a.eval s = v) (y : Value) (hy : y.oneCell' = true) (hx : a.eval x = .slice (some ⟨w.heap.size, 0, none⟩) 1 1) (hl : us.length < 1000000)
    (hK : ∀ v' w', Vls t w' v' (us ++ [y]) → w.grownBy w' v.ownBlock → (v'.ownBlock = v.ownBlock ∨ v'.ownBlock = some (w.heap.size + 1)) → wpList P ops Q rest (a.put o.dst v') w') :
    wpList P ops Q (o :: rest) a (w.alloc (.cells #[y] t)) := by
  obtain ⟨i0, hi0, hz0, hz1, hz2⟩ := info_parts hi
  refine wpList_append_own_at _ hgd s x ts ho 0 t i0 _ 1 bytes ht hi0 hz0 hz1 hz2 hz (by omega) v us.length us hs (h.alloc _) ⟨w.heap.size, 0, none⟩ 1 1 [y] hx rfl (cell_one_new _ _ _) (by intro u hu; simp at hu; subst hu; exact hy) (by simp only [maxLen]; omega) ?_ (Nat.zero_le _) ?_
  · have : (us.length + 1) * bytes ≤ 1000001 * 24 := Nat.mul_le_mul (by omega) hby
    omega
  · intro v' w' hown hgr _ hloc
    refine hK v' w' ?_ ?_ ?_
    · unfold Vls; simpa using hown
    · exact grown_then (grown_made _ _ _) hgr (.inl rfl)
    · simpa using hloc
end

/-- The value v is a slice of just the ints xs, somewhere in a row (or nil). -/
def Fs (w : World) (v : Value) (xs : List Int) : Prop :=
  (v = .slice none 0 0 ∧ xs = []) ∨ ∃ g off cap cs, v = .slice (some ⟨g, off, none⟩) xs.length cap ∧ xs.length ≤ cap ∧ cap ≤ maxLen ∧ Bk w g 3 cs ∧ off + cap ≤ cs.size ∧ ∀ i, i < xs.length → cs[off + i]? = some (.int .i64 (nth xs i))
section
variable {w w' : World} {v : Value} {xs : List Int}
theorem Fs.of_lst (h : Lst .i64 3 w v xs) : Fs w v xs := by
  rcases h.2 with ⟨rfl, h0⟩ | ⟨g, cap, cur, rfl, hb, hg, hnc, hcm, hcs, htake⟩
  · exact .inl ⟨rfl, List.eq_nil_of_length_eq_zero h0⟩
  · refine .inr ⟨g, 0, cap, cur, rfl, hnc, hcm, hg, by omega, fun i hi => ?_⟩
    have h1 := World.ownsRow.cellAt ⟨h.1, .inr ⟨g, cap, cur, rfl, hb, hg, hnc, hcm, hcs, htake⟩⟩ i (by omega)
    rw [List.getElem?_map, nth_get hi] at h1
    rw [Nat.zero_add, ← Bk.cell (cs := cur) (t := 3) hg i, h1]; rfl
theorem Fs.lt (h : Fs w v xs) {g : Nat} (e : v.ownBlock = some g) : g < w.heap.size := by
  rcases h with ⟨rfl, _⟩ | ⟨g', off, cap, cs, rfl, _, _, hb, _⟩
  · cases e
  · simp only [Value.ownBlock, Option.some.injEq] at e; subst e; exact hb.lt
theorem Fs.bk (h : Fs w v xs) {g : Nat} (e : v.ownBlock = some g) : ∃ cs, Bk w g 3 cs := by
  rcases h with ⟨rfl, _⟩ | ⟨g', off, cap, cs, rfl, _, _, hb, _⟩
  · cases e
  · simp only [Value.ownBlock, Option.some.injEq] at e; subst e; exact ⟨cs, hb⟩
theorem Fs.within {S : Nat → Prop} (h : Fs w v xs) (k : Within w w' S) (hn : ∀ g, v.ownBlock = some g → ¬ S g) : Fs w' v xs := by
  rcases h with ⟨rfl, rfl⟩ | ⟨g, off, cap, cs, rfl, h1, h2, hb, h3⟩
  · exact .inl ⟨rfl, rfl⟩
  · exact .inr ⟨g, off, cap, cs, rfl, h1, h2, hb.within k (hn g rfl), h3⟩
theorem Fs.oneCell (h : Fs w v xs) : v.oneCell' = true := by
  rcases h with ⟨rfl, _⟩ | ⟨g, off, cap, cs, rfl, _⟩ <;> rfl
/-- The first one cut off. -/
theorem Fs.cut {x : Int} (h : Fs w v (x :: xs)) : ∃ g off cap, v = .slice (some ⟨g, off, none⟩) (xs.length + 1) cap ∧ xs.length + 1 ≤ cap ∧ cap ≤ maxLen ∧ w.cell? ⟨g, off, none⟩ = some (.int .i64 x) ∧
    (cap = 1 → Fs w (.slice (some ⟨g, off, none⟩) xs.length (cap - 1)) xs) ∧ (cap ≠ 1 → Fs w (.slice (some ⟨g, off + 1, none⟩) xs.length (cap - 1)) xs) := by
  rcases h with ⟨_, h⟩ | ⟨g, off, cap, cs, rfl, h1, h2, hb, h3, h4⟩
  · cases h
  · simp only [List.length_cons] at h1 h4
    refine ⟨g, off, cap, rfl, h1, h2, ?_, fun e => ?_, fun e => ?_⟩
    · rw [hb.cell]; have := h4 0 (by omega); rw [Nat.add_zero] at this; exact this
    · exact .inr ⟨g, off, cap - 1, cs, rfl, by omega, by omega, hb, by omega, fun i hi => by omega⟩
    · refine .inr ⟨g, off + 1, cap - 1, cs, rfl, by omega, by omega, hb, by omega, fun i hi => ?_⟩
      rw [show off + 1 + i = off + (i + 1) by omega, h4 (i + 1) (by omega)]
      rfl
/-- One more, where there is room. -/
theorem Fs.more {g off cap : Nat} {x : Int} (h : Fs w (.slice (some ⟨g, off, none⟩) xs.length cap) xs) (hr : xs.length + 1 ≤ cap) : Fs (w.setCell ⟨g, off + xs.length, none⟩ (.int .i64 x)) (.slice (some ⟨g, off, none⟩) (xs.length + 1) cap) (xs ++ [x]) := by
  rcases h with ⟨h, _⟩ | ⟨g', off', cap', cs, e, h1, h2, hb, h3, h4⟩
  · cases h
  · simp only [Value.slice.injEq, Option.some.injEq, Addr.mk.injEq, and_true, true_and] at e
    obtain ⟨⟨rfl, rfl⟩, rfl⟩ := e
    refine .inr ⟨g, off, cap, _, by simp, by simp; omega, h2, hb.put _ _, by simpa using h3, fun i hi => ?_⟩
    simp only [List.length_append, List.length_cons, List.length_nil] at hi
    rw [Array.getElem?_setIfInBounds]
    by_cases e : i = xs.length
    · subst e
      rw [if_pos rfl, if_pos (by omega)]
      simp [nth]
    · rw [if_neg (by omega), h4 i (by omega)]
      simp [nth, List.getD_eq_getElem?_getD, List.getElem?_append, show i < xs.length by omega]
end

/-- Where the document's pool lies: the values of its three lists, and of each thread's list. -/
structure RM where
  fv : Value
  gv : Value
  ov : Value
  vs : Nat → Value
/-- The blocks that calls may change. -/
def RM.Has (R : RM) (n i : Nat) : Prop := R.fv.ownBlock = some i ∨ R.gv.ownBlock = some i ∨ R.ov.ownBlock = some i ∨ ∃ t, t < n ∧ (R.vs t).ownBlock = some i
/-- Nodes as the document numbers them: from 1 on. -/
def ones (l : List Nat) : List Int := l.map fun (q : Nat) => ((q : Nat) : Int) + 1
/-- The document's pool. -/
structure Rf (w : World) (x n each : Nat) (R : RM) (free : Nat → List Nat) (gen out : List Int) : Prop where
  ptr : Bk w x 46 #[.int .i64 each, R.fv, R.gv, R.ov]
  row : Vls 44 w R.fv ((List.range n).map R.vs)
  gens : Lst .i64 3 w R.gv gen
  outs : Lst .i64 3 w R.ov out
  frees : ∀ t, t < n → Fs w (R.vs t) (ones (free t))
  go : ∀ g, R.gv.ownBlock = some g → R.ov.ownBlock ≠ some g
  vg : ∀ t g, t < n → (R.vs t).ownBlock = some g → R.gv.ownBlock ≠ some g
  vo : ∀ t g, t < n → (R.vs t).ownBlock = some g → R.ov.ownBlock ≠ some g
  vv : ∀ s t g, s < n → t < n → s ≠ t → (R.vs s).ownBlock = some g → (R.vs t).ownBlock ≠ some g

section
variable {w w' : World} {x n each : Nat} {R : RM} {free : Nat → List Nat} {gen out : List Int}
theorem Rf.lt (h : Rf w x n each R free gen out) {i : Nat} (k : R.Has n i) : i < w.heap.size := by
  rcases k with e | e | e | ⟨t, ht, e⟩
  · exact h.row.lt e
  · exact h.gens.lt e
  · exact h.outs.lt e
  · exact (h.frees t ht).lt e
theorem Rf.kept {S : Nat → Prop} (h : Rf w x n each R free gen out) (k : Within w w' S) (h1 : ¬ S x) (h2 : ∀ i, R.Has n i → ¬ S i) : Rf w' x n each R free gen out :=
  ⟨h.ptr.within k h1, h.row.within k (fun g e => h2 g (.inl e)), h.gens.within k (fun g e => h2 g (.inr (.inl e))), h.outs.within k (fun g e => h2 g (.inr (.inr (.inl e)))),
    fun t ht => (h.frees t ht).within k (fun g e => h2 g (.inr (.inr (.inr ⟨t, ht, e⟩)))), h.go, h.vg, h.vo, h.vv⟩
theorem Rf.grown (h : Rf w x n each R free gen out) (k : w.grownBy w' none) : Rf w' x n each R free gen out := h.kept (S := fun _ => False) (.of_grown k (by simp)) (by simp) (by simp)
theorem Rf.drewN (h : Rf w x n each R free gen out) (m : Nat) : Rf (w.drewN m) x n each R free gen out := h.kept (S := fun _ => False) ((Within.refl _ _).draws m) (by simp) (by simp)
theorem Rf.c0 (h : Rf w x n each R free gen out) : w.cell? ⟨x, 0, none⟩ = some (.int .i64 each) := by rw [h.ptr.cell]; rfl
theorem Rf.c1 (h : Rf w x n each R free gen out) : w.cell? ⟨x, 1, none⟩ = some R.fv := by rw [h.ptr.cell]; rfl
theorem Rf.c2 (h : Rf w x n each R free gen out) : w.cell? ⟨x, 2, none⟩ = some R.gv := by rw [h.ptr.cell]; rfl
theorem Rf.c3 (h : Rf w x n each R free gen out) : w.cell? ⟨x, 3, none⟩ = some R.ov := by rw [h.ptr.cell]; rfl
/-- Its list of lists. -/
theorem Rf.fvIs (h : Rf w x n each R free gen out) (hn : 1 ≤ n) : ∃ g cap, R.fv = .slice (some ⟨g, 0, none⟩) n cap ∧ n ≤ cap ∧ cap ≤ maxLen ∧ (∀ i, w.frozen? ⟨g, i, none⟩ = false) ∧ ∀ t, t < n → w.cell? ⟨g, t, none⟩ = some (R.vs t) := by
  obtain ⟨a, cap, e, h1, h2, h3⟩ := h.row.is
  simp only [List.length_map, List.length_range] at e h1 h3
  obtain ⟨g, rfl, _, hf, hc⟩ := h3 hn
  refine ⟨g, cap, e, h1, h2, hf, fun t ht => ?_⟩
  rcases hc t with hc | hc
  · rw [hc]; simp [ht]
  · omega
theorem Rf.gvIs (h : Rf w x n each R free gen out) : ∃ a cap, R.gv = .slice a gen.length cap ∧ gen.length ≤ cap ∧ cap ≤ maxLen ∧ (0 < gen.length → ∃ g, a = some ⟨g, 0, none⟩ ∧ R.gv.ownBlock = some g ∧ (∀ i, w.frozen? ⟨g, i, none⟩ = false) ∧ ∀ i, i < gen.length → w.cell? ⟨g, i, none⟩ = some (.int .i64 (nth gen i))) := h.gens.is
theorem Rf.ovIs (h : Rf w x n each R free gen out) : ∃ a cap, R.ov = .slice a out.length cap ∧ out.length ≤ cap ∧ cap ≤ maxLen ∧ (0 < out.length → ∃ g, a = some ⟨g, 0, none⟩ ∧ R.ov.ownBlock = some g ∧ (∀ i, w.frozen? ⟨g, i, none⟩ = false) ∧ ∀ i, i < out.length → w.cell? ⟨g, i, none⟩ = some (.int .i64 (nth out i))) := h.outs.is

/-- The handle of a node. -/
theorem rfHandle (h : Rf w x n each R free gen out) (hl : gen.length ≤ 512) {q : Nat} (hq : q < gen.length) (hg : 0 ≤ nth gen q ∧ nth gen q < 262144) :
    Calls Try.prog 23 #[.pointer (some ⟨x, 0, none⟩), .int .i64 ((q : Int) + 1)] w fun e w' => e = .returned (.int .u32 (hdl gen q)) ∧ w = w' := by
  have c2 := h.c2
  obtain ⟨a, cap, e, h1, h2, h3⟩ := h.gvIs
  obtain ⟨g, rfl, _, hf, hc⟩ := h3 (by omega)
  rw [e] at c2
  have hcq := hc q hq
  have b1 : (q : Int) < gen.length := by omega
  clear hc e
  go_enter Try.func23, Try.ntmps23
  go_wp2_with fail
  refine (rNewGood _ _ (by omega) (by omega) hg.1 hg.2 _).mono ?_
  rintro e w' ⟨rfl, rfl⟩
  go_wp2
  go_ret
  exact ⟨rfl, rfl⟩
end
end Go.Proofs.Yteeaminfhpcdmaa
