/- What Len and New of layer 4 (permit) return, and what awake does: contracts. -/
import Derived.Test.YtjdnellafephfaaPermitB
namespace Go.Proofs.Ytjdnellafephfaa
open Go.ChangeShapes Go.WideShapes Go.ChangeAt Go.RowKit Go.Conc

/-- How many have one. -/
def cnt : List Bool → Nat
  | [] => 0
  | b :: bs => b.toNat + cnt bs
def cntTo (bs : List Bool) (k : Nat) : Nat := cnt (bs.take k)
theorem cnt_append (xs ys : List Bool) : cnt (xs ++ ys) = cnt xs + cnt ys := by
  induction xs with
  | nil => simp [cnt]
  | cons x xs ih => simp only [List.cons_append, cnt, ih]; omega
theorem cntTo_0 (bs : List Bool) : cntTo bs 0 = 0 := by simp [cntTo, cnt]
theorem cntTo_all (bs : List Bool) : cntTo bs bs.length = cnt bs := by simp [cntTo]
theorem cntTo_succ (bs : List Bool) {k : Nat} (h : k < bs.length) : cntTo bs (k + 1) = cntTo bs k + (nthO false bs k).toNat := by
  have e : bs.take (k + 1) = bs.take k ++ [nthO false bs k] := by rw [List.take_add_one, nthO_get (z := false) h]; rfl
  unfold cntTo; rw [e, cnt_append]; simp [cnt]
theorem cnt_le (bs : List Bool) : cnt bs ≤ bs.length := by
  induction bs with
  | nil => simp [cnt]
  | cons b bs ih => simp only [cnt, List.length_cons]; have := Bool.toNat_le b; omega
theorem cntTo_le (bs : List Bool) (k : Nat) : cntTo bs k ≤ bs.length := by
  have := cnt_le (bs.take k); simp only [List.length_take] at this; unfold cntTo; omega
theorem cnt_none (n : Nat) : cnt (List.replicate n false) = 0 := by
  induction n with
  | zero => rfl
  | succ n ih => simp only [List.replicate_succ, cnt, ih]; simp
theorem nthO_none (n i : Nat) : nthO false (List.replicate n false) i = false := by
  simp [nthO, List.getD_eq_getElem?_getD, List.getElem?_replicate]; split <;> rfl
theorem cnt_set (bs : List Bool) {t : Nat} (h : t < bs.length) (b : Bool) : cnt (bs.set t b) + (nthO false bs t).toNat = cnt bs + b.toNat := by
  induction bs generalizing t with
  | nil => simp at h
  | cons c bs ih =>
    cases t with
    | zero => simp only [List.set_cons_zero, cnt, nthO, List.getD_cons_zero]; omega
    | succ t =>
      have := ih (t := t) (by simpa using h)
      simp only [List.set_cons_succ, cnt, nthO, List.getD_cons_succ] at this ⊢
      omega

section
variable {w w' : World} {g n : Nat} {bs : List Bool}
theorem pNewBad (n : Int) (hn : n < 1 ∨ 64 < n) (w : World) :
    Calls Try.prog 22 #[.int .i64 n] w fun e w' => e = .returned (.tuple #[.pointer none, .int .i64 1]) ∧ w = w' := by
  rcases hn with hn | hn
  · go_enter Try.func22, Try.ntmps22
    go_wp2
    go_ret2
    exact ⟨rfl, rfl⟩
  · have hn' : ¬ n < 1 := by omega
    go_enter Try.func22, Try.ntmps22
    go_wp2
    go_ret2
    exact ⟨rfl, rfl⟩

theorem sinfo : ∃ i, Try.prog.info? 64 = some i ∧ i.bytes = 0 := by
  have h : (Try.prog.info? 64).map (·.bytes) = some 0 := by kernel_rfl
  obtain ⟨i, hi, hb⟩ := Option.map_eq_some_iff.1 h
  exact ⟨i, hi, hb⟩
theorem mkCh (w : World) : (Instr.makeChan 61 (.int .i64 1)).run Try.prog w = .ok (.chan (some w.heap.size)) (w.alloc (.chan 1 #[] false 0 0 false)) := by
  obtain ⟨i, hi, hb⟩ := sinfo
  simpa using run_makeChan (P := Try.prog) (w := w) Try.underlying61 hi .i64 1 (by omega) (by rw [hb]; omega)
theorem chinfo : (Try.prog.info? 61).map (fun i => (i.zero, i.size, i.bytes)) = some (some (.chan none), 1, 8) := by kernel_rfl

/-- New permits: nobody has one; in memory of their own. -/
def PMade (w : World) (n : Nat) (e : Ending) (w' : World) : Prop :=
  ∃ g, e = .returned (.tuple #[.pointer (some ⟨g + 1 + n, 0, none⟩), .int .i64 0]) ∧ Pm w' g n (List.replicate n false) ∧ w.heap.size ≤ g ∧ w.grownBy w' none

/-- While channels are made: k of them are there. -/
def NewRel (w : World) (n k : Nat) (wr : World) : Prop :=
  Bk wr w.heap.size 61 (chRow w.heap.size n k) ∧ (∀ i, i < k → Ch wr (w.heap.size + 1 + i) false) ∧ wr.heap.size = w.heap.size + 1 + k ∧ w.grownBy wr none

theorem new_step {w wr : World} {n k : Nat} (h : NewRel w n k wr) :
    NewRel w n (k + 1) ((wr.alloc (.chan 1 #[] false 0 0 false)).setCell ⟨w.heap.size, k, none⟩ (.chan (some wr.heap.size))) := by
  obtain ⟨h1, h2, h3, h4⟩ := h
  refine ⟨?_, fun i hi => ?_, ?_, ?_⟩
  · have := (h1.alloc (.chan 1 #[] false 0 0 false)).put k (.chan (some wr.heap.size))
    rw [h3, chRow_set] at this
    rw [h3]; exact this
  · by_cases e : i = k
    · subst e
      refine ⟨0, 0, ?_⟩
      rw [Below.heap_setCell _ _ _ _ (by simp; omega), ← h3]
      exact heap_alloc_new _ _
    · obtain ⟨s, r, hc⟩ := h2 i (by omega)
      refine ⟨s, r, ?_⟩
      rw [Below.heap_setCell _ _ _ _ (by simp; omega), Below.heap_alloc _ _ _ (by omega)]
      exact hc
  · simp [World.setCell]; omega
  · exact grown_then (grown_then h4 (grown_made _ _ none) (.inl rfl)) (only_put _ _ _ _) (.inr fun x e => by injection e with e; omega)

set_option maxHeartbeats 400000 in
theorem pNew (n : Nat) (h1 : 1 ≤ n) (hn : n ≤ 64) (w : World) : Calls Try.prog 22 #[.int .i64 n] w (PMade w n) := by
  obtain ⟨i0, hi0, hz0, hz1, hz2⟩ := info_parts chinfo
  have hmk := fun W : World => run_make (P := Try.prog) W 60 61 i0 _ Try.underlying60 hi0 hz0 .i64 .i64 n n (by omega) (by omega) (by rw [hz2]; omega) (by omega)
  rw [hz1] at hmk
  clear hi0 hz0 hz1 hz2
  go_enter Try.func22, Try.ntmps22
  go_wp2
  clear hmk
  go_loopw [16] (fun i wr => ∃ k : Nat, k ≤ n ∧ i = .int .i64 k ∧ NewRel w n k wr) (fun i _ => n - (intOf i).toNat)
  case atStart =>
    refine ⟨0, Nat.zero_le _, rfl, ?_, fun i hi => by omega, by simp, grown_made _ _ _⟩
    have := Bk.made w 61 (madeCells #[.chan none] n)
    rw [chRow_made w.heap.size] at this ⊢
    exact this
  case round =>
    obtain ⟨k, hk, rfl, hr⟩ := hrel
    by_cases hlt : k < n
    · have hmc := mkCh
      have hs := new_step hr
      have HS := Lib.hid hs
      have hq := (hr.1.alloc (.chan 1 #[] false 0 0 false)).cell k
      rw [chRow_at' _ _ _ _ hlt] at hq
      have hz := (hr.1.alloc (.chan 1 #[] false 0 0 false)).free k
      clear hs hr
      go_wp2
      go_roundw
      case rel => exact ⟨k + 1, by omega, by go_num, HS.out⟩
      case measure => simp [intOf]; omega
    · obtain rfl : k = n := by omega
      obtain ⟨r1, r2, r3, r4⟩ := hr
      go_wp2
      go_ret2
      refine ⟨w.heap.size, rfl, ⟨by simp, ?_, r1.alloc _, fun i hi => ?_, hn, h1⟩, Nat.le_refl _, grown_then r4 (grown_made _ _ none) (.inl rfl)⟩
      · have := Bk.made wr 63 #[.slice (some ⟨w.heap.size, 0, none⟩) k k]
        rw [r3] at this; exact this
      · rw [nthO_none]
        obtain ⟨s, r, hc⟩ := r2 i hi
        exact ⟨s, r, (Below.heap_alloc _ _ _ (by omega)).trans hc⟩

/-- Behind awake: true; nothing that was there has changed. -/
def Awoke (w : World) (e : Ending) (w' : World) : Prop := e = .returned (.bool true) ∧ w.grownBy w' none

end
end Go.Proofs.Ytjdnellafephfaa
