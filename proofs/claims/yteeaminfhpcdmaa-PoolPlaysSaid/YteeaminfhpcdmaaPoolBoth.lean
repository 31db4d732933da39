/- The pool and the document's pool side by side, and a list of the handles that were had: what one call leaves of the others. -/
import Derived.Test.YteeaminfhpcdmaaPoolRefD
import Derived.Test.YteeaminfhpcdmaaPoolRefE
namespace Go.Proofs.Yteeaminfhpcdmaa
open Go.ChangeShapes Go.WideShapes Go.ChangeAt Go.RowKit

section
variable {w wr w2 : World} {p x n each each' c : Nat} {M M2 : PM} {R R2 : RM} {free : Nat → List Nat} {gen out : List Int} {fr : Nat → List Int} {os : Int → Bool} {hv : Value} {had : List Int}
theorem Rf.bk (h : Rf w x n each R free gen out) {i : Nat} (k : R.Has n i) : ∃ t cs, Bk w i t cs ∧ (t = 44 ∨ t = 3) := by
  rcases k with e | e | e | ⟨s, hs, e⟩
  · obtain ⟨cs, hc⟩ := h.row.bk e; exact ⟨_, cs, hc, .inl rfl⟩
  · obtain ⟨cs, hc⟩ := h.gens.bk e; exact ⟨_, cs, hc, .inr rfl⟩
  · obtain ⟨cs, hc⟩ := h.outs.bk e; exact ⟨_, cs, hc, .inr rfl⟩
  · obtain ⟨cs, hc⟩ := (h.frees s hs).bk e; exact ⟨_, cs, hc, .inr rfl⟩
/-- Cells of another type aren't the document's pool's. -/
theorem Rf.not_has (h : Rf w x n each R free gen out) {q : Nat} {t : TypeId} {cs : Array Value} (k : Bk w q t cs) (h1 : t ≠ 44) (h2 : t ≠ 3) : ¬ R.Has n q := fun e => by
  obtain ⟨t', cs', hc, ht⟩ := h.bk e
  have : t = t' := by unfold Bk at k hc; rw [k] at hc; injection hc with hc; injection hc
  subst this
  rcases ht with e | e
  · exact h1 e
  · exact h2 e
theorem Pl.off (hp : Pl w p n each M fr os c) (hr : Rf w x n each' R free gen out) {i : Nat} (k : M.Has n i) : ¬ R.Has n i := fun e => by
  obtain ⟨t, cs, hc, ht⟩ := hr.bk e
  rcases ht with rfl | rfl
  · exact hp.not_has hc (by decide) (by decide) k
  · exact hp.not_has hc (by decide) (by decide) k
theorem Rf.stays (hr : Rf w x n each' R free gen out) (hp : Pl w p n each M fr os c) (s : Stays w n M w2 M2) : Rf w2 x n each' R free gen out :=
  hr.kept s.2.1 (hp.not_has hr.ptr (by decide) (by decide)) (fun _ hi e => hp.off hr e hi)
theorem Pl.rstays (hp : Pl w p n each M fr os c) (hr : Rf w x n each' R free gen out) (s : RStays w n R w2 R2) : Pl w2 p n each M fr os c :=
  hp.kept s.1 (hr.not_has hp.ptr (by decide) (by decide)) (hr.not_has hp.row (by decide) (by decide)) (fun _ hi => hp.off hr hi)

/-- What lies beside the two pools: the handles that were had, and what has changed since w. -/
structure Half (w : World) (n : Nat) (M : PM) (R : RM) (hv : Value) (had : List Int) (wr : World) : Prop where
  lst : Lst .u32 31 wr hv had
  u32 : U32s had
  apart : ∀ g, hv.ownBlock = some g → w.heap.size ≤ g ∧ ¬ M.Has n g
  gr : w.grownBy wr none
  newM : ∀ i, M.Has n i → w.heap.size ≤ i
  newR : ∀ i, R.Has n i → w.heap.size ≤ i
theorem Half.drewN (h : Half w n M R hv had wr) (m : Nat) : Half w n M R hv had (wr.drewN m) := ⟨h.lst, h.u32, h.apart, grown_draws h.gr m, h.newM, h.newR⟩
theorem Half.grown (h : Half w n M R hv had wr) (g : wr.grownBy w2 none) : Half w n M R hv had w2 := ⟨h.lst.kept g (by cases hv.ownBlock <;> simp), h.u32, h.apart, grown_then h.gr g (.inl rfl), h.newM, h.newR⟩
theorem Half.stays (h : Half w n M R hv had wr) (s : Stays wr n M w2 M2) : Half w n M2 R hv had w2 := by
  obtain ⟨g, m⟩ := stays_grown h.gr h.newM s
  refine ⟨h.lst.within s.2.1 (fun g e => (h.apart g e).2), h.u32, fun b e => ⟨(h.apart b e).1, fun e' => ?_⟩, g, m, h.newR⟩
  rcases s.2.2 b e' with e' | e'
  · exact (h.apart b e).2 e'
  · have := h.lst.lt e; omega
theorem Half.rstays (h : Half w n M R hv had wr) (hr : Rf wr x n each R free gen out) (s : RStays wr n R w2 R2) : Half w n M R2 hv had w2 := by
  refine ⟨h.lst.within s.1 (fun g e => ?_), h.u32, h.apart, ((Within.of_grown (S := fun _ => False) h.gr (by simp)).then_ s.1 (fun i hi => .inr (h.newR i hi))).grown (by simp), h.newM, fun i hi => ?_⟩
  · obtain ⟨cs, hc⟩ := h.lst.bk e
    exact hr.not_has hc (by decide) (by decide)
  · rcases s.2 i hi with e | e
    · exact h.newR i e
    · exact Nat.le_trans h.gr.size e
/-- One more that was had. -/
theorem Half.more {hv2 : Value} {y : Int} (h : Half w n M R hv had wr) (hp : Pl wr p n each M fr os c) (y0 : 0 ≤ y) (y1 : y < 4294967296) (g : wr.grownBy w2 hv.ownBlock) (hL : Lst .u32 31 w2 hv2 (had ++ [y])) (loc : hv2.ownBlock = hv.ownBlock ∨ hv2.ownBlock = some (wr.heap.size + 1)) : Half w n M R hv2 (had ++ [y]) w2 := by
  have hs := h.gr.size
  refine ⟨hL, fun z hz => ?_, fun b e => ?_, grown_own h.gr g (fun b e => (h.apart b e).1), h.newM, h.newR⟩
  · rcases List.mem_append.1 hz with hz | hz
    · exact h.u32 z hz
    · simp at hz; subst hz; exact ⟨y0, y1⟩
  · rcases loc with e' | e'
    · exact h.apart b (e' ▸ e)
    · rw [e'] at e; injection e with e; subst e
      exact ⟨by omega, fun k => by have := hp.lt k; omega⟩
/-- The pools don't see the list of what was had. -/
theorem Half.pl (h : Half w n M R hv had wr) (hp : Pl wr p n each M fr os c) (g : wr.grownBy w2 hv.ownBlock) : Pl w2 p n each M fr os c := by
  refine hp.kept (S := fun b => hv.ownBlock = some b) (.of_grown g (fun i e => .inl e)) (fun e => ?_) (fun e => ?_) (fun i hi e => (h.apart i e).2 hi)
  · obtain ⟨cs, hc⟩ := h.lst.bk e; exact Bk.unlike hc hp.ptr (by decide) rfl
  · obtain ⟨cs, hc⟩ := h.lst.bk e; exact Bk.unlike hc hp.row (by decide) rfl
theorem Half.rf (h : Half w n M R hv had wr) (hr : Rf wr x n each R free gen out) (g : wr.grownBy w2 hv.ownBlock) : Rf w2 x n each R free gen out := by
  refine hr.kept (S := fun b => hv.ownBlock = some b) (.of_grown g (fun i e => .inl e)) (fun e => ?_) (fun i hi e => ?_)
  · obtain ⟨cs, hc⟩ := h.lst.bk e; exact Bk.unlike hc hr.ptr (by decide) rfl
  · obtain ⟨cs, hc⟩ := h.lst.bk e; exact hr.not_has hc (by decide) (by decide) hi
theorem Half.bk (h : Half w n M R hv had wr) (g : wr.grownBy w2 hv.ownBlock) {q : Nat} {t : TypeId} {cs : Array Value} (k : Bk wr q t cs) (ht : t ≠ 31) : Bk w2 q t cs :=
  k.within (S := fun b => hv.ownBlock = some b) (.of_grown g (fun i e => .inl e)) (fun e => by obtain ⟨cs', hc⟩ := h.lst.bk e; exact Bk.unlike k hc ht rfl)

/-- The whole state: both pools, the same. -/
structure St (w : World) (p x n each : Nat) (hv : Value) (had : List Int) (wr : World) : Prop where
  ex : ∃ M R free gen out fr os c, Pl wr p n each M fr os c ∧ Rf wr x n each R free gen out ∧ Same n each free gen out fr os c ∧ Half w n M R hv had wr
end
end Go.Proofs.Yteeaminfhpcdmaa
