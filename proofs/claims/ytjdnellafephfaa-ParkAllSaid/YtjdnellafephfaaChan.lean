/- Channels in one goroutine: what a store into one leaves alone, how a walk goes up to a select and on behind it: over any program. -/
import Derived.Test.YtjdnellafephfaaRow
import Derived.Conc.LoneCalls
import Derived.Conc.LoneSelect
import Derived.Conc.LoneSelectN
namespace Go.Proofs.Ytjdnellafephfaa
open Go.ChangeShapes Go.WideShapes Go.ChangeAt Go.RowKit Go.Conc

section
variable {P : Program} {Q : Goroutine → World → Prop} {b : Frame} {k : List Item} {cs : List Frame} {a : Act} {w : World}
/-- A piece of code that the ordinary walk can walk, ahead of what it can't. -/
theorem loneTo_wp {c : Code} (h : ∀ K : Act → World → Prop, (∀ a' w', LoneTo P Q (G (b.at a' k) cs) w' → K a' w') → c.wp P (Exit.then K (fun _ _ _ => False)) a w) :
    LoneTo P Q (G (b.at a (.code c :: k)) cs) w := by
  obtain ⟨e, a', w', hq, harr⟩ := h (fun a' w' => LoneTo P Q (G (b.at a' k) cs) w') (fun _ _ h => h) b k cs
  cases e with
  | normal => obtain ⟨g₂, w₂, hs, hq'⟩ := hq; exact ⟨g₂, w₂, Steps.trans harr hs, hq'⟩
  | exit id => exact hq.elim
  | goto l => exact hq.elim
  | ret => exact hq.elim
  | panic chain => exact hq.elim
  | outgrown => exact hq.elim
/-- The rest of a region, where the ordinary walk can walk it. -/
theorem loneTo_ops {ops : Array Oper} {l : List Nat} (h : wpOps P ops (Exit.then (fun a' w' => LoneTo P Q (G (b.at a' k) cs) w') (fun _ _ _ => False)) l a w) :
    LoneTo P Q (G (b.at a (.inRegion ops l :: k)) cs) w := by
  obtain ⟨e, a', w', hq, harr⟩ := wp_ops l a w h b k cs
  cases e with
  | normal => obtain ⟨g₂, w₂, hs, hq'⟩ := hq; exact ⟨g₂, w₂, Steps.trans harr hs, hq'⟩
  | exit id => exact hq.elim
  | goto l => exact hq.elim
  | ret => exact hq.elim
  | panic chain => exact hq.elim
  | outgrown => exact hq.elim
theorem loneTo_seq {x y : Code} (h : LoneTo P Q (G (b.at a (.code x :: .code y :: k)) cs) w) : LoneTo P Q (G (b.at a (.code (.seq x y) :: k)) cs) w := LoneTo.step step_seq h
end

section
variable {w : World} {c cap s r : Nat} {buf : Array Value} {cl tm : Bool}
theorem Bk.chan {g : Nat} {t : TypeId} {vs : Array Value} (h : Bk w g t vs) (hne : g ≠ c) : Bk (w.setChan c cap buf cl s r tm) g t vs := by
  unfold Bk at h ⊢; rw [← h]; simp [World.setChan, Array.getElem?_setIfInBounds_ne (Ne.symm hne)]
theorem chan_other {c' : Nat} (h : c' ≠ c) : (w.setChan c cap buf cl s r tm).heap[c']? = w.heap[c']? := by
  simp [World.setChan, Array.getElem?_setIfInBounds_ne (Ne.symm h)]
theorem within_chan (S : Nat → Prop) (h : S c) : Within w (w.setChan c cap buf cl s r tm) S :=
  ⟨rfl, rfl, rfl, by simp [World.setChan], fun i _ hn => chan_other (fun e => hn (e ▸ h))⟩
end
end Go.Proofs.Ytjdnellafephfaa
