/- A range over a function: what of the world its iterator reads is told by what stands between the rounds; what a round's variables are may lie in new memory. Over any program. -/
import Derived.Test.YtjhdpolaapbihaaDoorRow
namespace Go.Proofs.YtjhdpolaapbihaaDoor
open Go.ChangeShapes Go.WideShapes Go.ChangeAt Go.RowKit
set_option linter.unusedVariables false

/-- As Iter, of worlds of which R holds between the rounds. -/
def IterR (R : World → Prop) (P : Program) (gf : FuncId) (lb : Array Value) (encs : Nat → Array Value) (N l : Nat) (W1 : World) (T : Nat → Prop) : Prop :=
  ∀ (J : Nat → World → Prop) (Jx : World → Prop), (∀ k, Calm T (J k)) → Calm T Jx → (∀ k W, J k W → R W) →
    (∀ k W, k < N → J k W → (∀ b, T b → b < W.heap.size) → YieldAt Fence.wide 0 P l (encs k) W fun e W' => Held T W W' ∧ ((e = .returned (.bool true) ∧ J (k + 1) W') ∨ (e = .returned (.bool false) ∧ Jx W'))) →
    J 0 W1 → CallsIn Fence.wide 0 P gf (#[.func (.yield l) #[] #[]] ++ lb) W1 fun e W' => (∃ v, e = .returned v) ∧ (J N W' ∨ Jx W')

theorem wpIn_rangeG {P : Program} {g : Operand} {ps : Array Tmp} {assign body : Code} {Q : Exit → Act → World → Prop} {a : Act} {w : World}
    {gf : Nat} {lb : Array Value} (hg : a.eval g = .func (.func gf) #[] lb) (eg : ∀ args w, (callFunc gf args).run P w = .ok (.enter gf args) w)
    {encs : Nat → Array Value} {N : Nat} {T : Nat → Prop} {R : World → Prop} (hps : ∀ k, (encs k).size = ps.size) (hT0 : ¬ T w.heap.size) (hT1 : ¬ T (w.heap.size + 1))
    (hseq : ∀ W1, Below w.heap.size w W1 → W1.heap.size = w.heap.size + 2 → IterR R P gf lb encs N (w.heap.size + 1) W1 T)
    (I : Nat → World → Prop) (hIR : ∀ k W, I k W → R W) (Ia : Nat → Nat → World → Prop) (hIa : ∀ k p, Calm (fun b => b = w.heap.size ∨ b = w.heap.size + 1 ∨ T b) (Ia k p)) (Ix : Code → World → Prop) (hI : ∀ k, Calm (fun b => b = w.heap.size ∨ b = w.heap.size + 1 ∨ T b) (I k)) (hIx : ∀ c, Calm (fun b => b = w.heap.size ∨ b = w.heap.size + 1 ∨ T b) (Ix c)) (h0 : I 0 w)
    (a₁ : Nat → Nat → Act)
    (hassign : ∀ (l k : Nat) (W : World) (K : Act → World → Prop), k < N → I k W → (∀ b, (b = w.heap.size ∨ b = w.heap.size + 1 ∨ T b) → b < W.heap.size) → (∀ p W', Below W.heap.size W W' → Ia k p W' → K (a₁ k p) W') →
      assign.wpIn (Fence.wide.inRound l) 0 P (Exit.then K (fun _ _ _ => False)) { tmps := (ps.zip (encs k)).foldl (fun t (p, v) => t.setIfInBounds p v) a.tmps, defers := [] } W)
    (hbody : ∀ (l k p : Nat) (W : World), k < N → Ia k p W → (∀ b, (b = w.heap.size ∨ b = w.heap.size + 1 ∨ T b) → b < W.heap.size) → body.wpIn (Fence.wide.inRound l) 0 P (roundOut (fun b => b = w.heap.size ∨ b = w.heap.size + 1 ∨ T b) W (I (k + 1)) Ix) (a₁ k p) W)
    (hdone : ∀ (W : World), I N W → W.heap[w.heap.size]? = some (.deferred (some [])) → Q .normal { a with defers := { target := .collected w.heap.size, args := #[] } :: a.defers } W)
    (hstop : ∀ (c : Code) (W : World), Ix c W → W.heap[w.heap.size]? = some (.deferred (some [])) → c.wpIn Fence.wide 0 P Q { a with defers := { target := .collected w.heap.size, args := #[] } :: a.defers } W) :
    (Code.rangeFunc g ps assign body).wpIn Fence.wide 0 P Q a w := by
  refine wpIn_rangeFunc ?_
  intro fn hfn
  obtain ⟨rec, hrec⟩ : ∃ rec : LoopState → Option Code → Loop, rec = fun st pe => { state := st, pending := pe, fn, tmps := a.tmps, params := ps, assign, body, defers := w.heap.size } := ⟨_, rfl⟩
  obtain ⟨W1, hW1⟩ : ∃ W1, (w.alloc (.deferred (some []))).alloc (.loop (rec .ready none)) = W1 := ⟨_, rfl⟩
  have hL1 : W1.heap[w.heap.size + 1]? = some (.loop (rec .ready none)) := by
    rw [← hW1]; have := World.alloc_heap_new (w.alloc (.deferred (some []))) (.loop (rec .ready none)); rwa [World.size_alloc] at this
  have hK1 : W1.heap[w.heap.size]? = some (.deferred (some [])) := by
    rw [← hW1]; exact (Below.heap_alloc _ _ _ (by simp)).trans (World.alloc_heap_new w _)
  have hw1 : Within w W1 (fun _ => False) := by rw [← hW1]; exact ((Within.refl w _).alloc _).alloc _
  have hb1 : Below w.heap.size w W1 := hw1.below (by simp)
  have hz1 : W1.heap.size = w.heap.size + 2 := by rw [← hW1]; simp
  have hI1 : I 0 W1 := hI 0 _ _ h0 (hw1.wide (by simp))
  refine ⟨w.heap.size + 1, [{ target := .collected w.heap.size, args := #[] }], W1, { target := .fn (.func gf) lb, args := #[.func (.yield (w.heap.size + 1)) #[] #[]] }, W1, gf,
    #[.func (.yield (w.heap.size + 1)) #[] #[]] ++ lb, W1, ?_, ?_, (fun _ _ => trivial), ?_, (fun h => (by cases h)), ?_⟩
  · rw [← hW1, hrec]; exact run_enterLoop_outer _ _ _ _ _
  · simp only [resolve, hg]
    simp [go_sem]
  · simp [invoke, go_sem, eg]
  · refine (hseq W1 hb1 hz1
      (fun k W => I k W ∧ W.heap[w.heap.size + 1]? = some (.loop (rec .ready none)) ∧ W.heap[w.heap.size]? = some (.deferred (some [])))
      (fun W => ∃ c, Ix c W ∧ W.heap[w.heap.size + 1]? = some (.loop (rec .done (some c))) ∧ W.heap[w.heap.size]? = some (.deferred (some [])))
      ?_ ?_ (fun k W h => hIR k W h.1) ?_ ⟨hI1, hL1, hK1⟩).mono ?_
    · rintro k A B ⟨hi, hl, hk⟩ hw
      exact ⟨hI k A B hi (hw.wide fun i hi _ => .inr (.inr hi)), (hw.block _ (Array.getElem?_eq_some_iff.1 hl).1 hT1).trans hl, (hw.block _ (Array.getElem?_eq_some_iff.1 hk).1 hT0).trans hk⟩
    · rintro A B ⟨c, hi, hl, hk⟩ hw
      exact ⟨c, hIx c A B hi (hw.wide fun i hi _ => .inr (.inr hi)), (hw.block _ (Array.getElem?_eq_some_iff.1 hl).1 hT1).trans hl, (hw.block _ (Array.getElem?_eq_some_iff.1 hk).1 hT0).trans hk⟩
    · -- one round
      rintro k W hk ⟨hi, hl, hd⟩ hT
      have hlt : w.heap.size + 1 < W.heap.size := (Array.getElem?_eq_some_iff.1 hl).1
      have hy := run_yield (P := P) (args := encs k) hl (by rw [hrec]; exact hps k)
      rw [hrec] at hy
      have hTa : ∀ b, (b = w.heap.size ∨ b = w.heap.size + 1 ∨ T b) → b < W.heap.size := by
        rintro b (rfl | rfl | hb)
        · omega
        · omega
        · exact hT b hb
      refine ⟨fn, _, assign, body, hy, roundIn_of_wpIn trivial (hassign _ k W _ hk hi hTa ?_)⟩
      clear hy
      intro p W0 hb0 hi0
      have hl0 := (hb0.block _ hlt).trans hl
      have hd0 := (hb0.block _ (by omega)).trans hd
      have hz0 := hb0.size
      refine ⟨_, run_beginRound hl0 (by rw [hrec]), ?_⟩
      obtain ⟨W2, hW2⟩ : ∃ W2, W0.putObj (w.heap.size + 1) (.loop { rec .ready none with state := .busy }) = W2 := ⟨_, rfl⟩
      have hl2 : W2.heap[w.heap.size + 1]? = some (.loop { rec .ready none with state := .busy }) := by rw [← hW2]; exact World.putObj_heap_same (by omega)
      have hd2 : W2.heap[w.heap.size]? = some (.deferred (some [])) := by rw [← hW2]; exact (World.putObj_heap_other (by omega)).trans hd0
      have hz2 : W2.heap.size = W0.heap.size := by rw [← hW2]; simp [World.putObj]
      have hh2 : Held T W W2 := ⟨by omega, fun b hb => by rw [← hW2]; exact (World.putObj_heap_other (show b ≠ w.heap.size + 1 from fun e => hT1 (by rw [← e]; exact hb))).trans (hb0.block b (hT b hb))⟩
      have hi2 : Ia k p W2 := by rw [← hW2]; exact hIa k p _ _ hi0 (within_putObj _ _ _ _ (.inr (.inl rfl)))
      rw [hW2]
      clear hW2
      refine wpIn_mono (hbody _ k p W2 hk hi2 (fun b hb => by have := hTa b hb; omega)) ?_
      have fin : ∀ (jump : Option Code) (W3 : World), Held (fun b => b = w.heap.size ∨ b = w.heap.size + 1 ∨ T b) W2 W3 →
          ∃ W4, (Instr.endRound (w.heap.size + 1) jump).run P W3 = .ok (.bool jump.isNone) W4 ∧ Within W3 W4 (fun b => b = w.heap.size ∨ b = w.heap.size + 1 ∨ T b) ∧ Held T W3 W4 ∧
          W4.heap[w.heap.size + 1]? = some (.loop (rec (if jump.isNone then .ready else .done) jump)) ∧ W4.heap[w.heap.size]? = some (.deferred (some [])) := fun jump W3 hh => by
        have hl3 := (hh.2 _ (.inr (.inl rfl))).trans hl2
        have hd3 := (hh.2 _ (.inl rfl)).trans hd2
        have := run_endRound (P := P) jump hl3
        rw [hrec] at this ⊢
        exact ⟨_, this, within_putObj _ _ _ _ (.inr (.inl rfl)), ⟨by simp [World.putObj], fun b hb => World.putObj_heap_other (fun e => hT1 (e ▸ hb))⟩,
          World.putObj_heap_same (Array.getElem?_eq_some_iff.1 hl3).1, (World.putObj_heap_other (by omega)).trans hd3⟩
      rintro e a3 W3 hp
      cases e with
      | normal =>
        obtain ⟨hh, hi3⟩ := hp
        obtain ⟨W4, hr, hw4, hh4, hl4, hd4⟩ := fin none W3 hh
        exact ⟨_, _, hr, hh2.trans ((hh.less fun b hb => .inr (.inr hb)).trans hh4), .inl ⟨rfl, hI _ _ _ hi3 hw4, hl4, hd4⟩⟩
      | ret =>
        obtain ⟨hh, hi3⟩ := hp
        obtain ⟨W4, hr, hw4, hh4, hl4, hd4⟩ := fin (some .ret) W3 hh
        exact ⟨_, _, hr, hh2.trans ((hh.less fun b hb => .inr (.inr hb)).trans hh4), .inr ⟨rfl, .ret, hIx _ _ _ hi3 hw4, hl4, hd4⟩⟩
      | exit id =>
        obtain ⟨hh, hi3⟩ := hp
        obtain ⟨W4, hr, hw4, hh4, hl4, hd4⟩ := fin (some (.exit id)) W3 hh
        exact ⟨_, _, hr, hh2.trans ((hh.less fun b hb => .inr (.inr hb)).trans hh4), .inr ⟨rfl, .exit id, hIx _ _ _ hi3 hw4, hl4, hd4⟩⟩
      | goto t =>
        obtain ⟨hh, hi3⟩ := hp
        obtain ⟨W4, hr, hw4, hh4, hl4, hd4⟩ := fin (some (.goto t)) W3 hh
        exact ⟨_, _, hr, hh2.trans ((hh.less fun b hb => .inr (.inr hb)).trans hh4), .inr ⟨rfl, .goto t, hIx _ _ _ hi3 hw4, hl4, hd4⟩⟩
      | panic ch => exact hp.elim
      | outgrown => exact hp.elim
    · -- behind the iterator
      rintro e W2 ⟨⟨v, rfl⟩, (⟨hi, hl, hd⟩ | ⟨c, hi, hl, hd⟩)⟩
      · exact ⟨none, _, by have := run_endLoop (P := P) hl (by rw [hrec]; simp); rw [hrec] at this; exact this, hdone _ (hI _ _ _ hi (within_putObj _ _ _ _ (.inr (.inl rfl)))) ((World.putObj_heap_other (by omega)).trans hd)⟩
      · exact ⟨some c, _, by have := run_endLoop (P := P) hl (by rw [hrec]; simp); rw [hrec] at this; exact this, hstop c _ (hIx c _ _ hi (within_putObj _ _ _ _ (.inr (.inl rfl)))) ((World.putObj_heap_other (by omega)).trans hd)⟩
end Go.Proofs.YtjhdpolaapbihaaDoor
