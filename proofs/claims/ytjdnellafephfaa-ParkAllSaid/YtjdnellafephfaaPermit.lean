/- What each function of layer 4 (permit) returns, and who has a permit then: one contract a function, for every list of who has one, every number of a thread. -/
import Derived.Test.YtjdnellafephfaaChan
import Derived.Laws.Pointers
namespace Go.Proofs.Ytjdnellafephfaa
open Go.ChangeShapes Go.WideShapes Go.ChangeAt Go.RowKit Go.Conc

/-- What waits in a thread's channel. -/
def chBuf (b : Bool) : Array Value := if b then #[.agg #[]] else #[]
/-- Block c is a thread's channel, with a permit in it or none. -/
def Ch (w : World) (c : Nat) (b : Bool) : Prop := ∃ s r, w.heap[c]? = some (.chan 1 (chBuf b) false s r false)
/-- The row of channels, as cells: they lie behind the row, one behind the other; of the first k. -/
def chRow (g n k : Nat) : Array Value := ((List.range n).map (fun i => if i < k then Value.chan (some (g + 1 + i)) else .chan none)).toArray
theorem chRow_at (g n k i : Nat) (h : i < n) (hk : i < k) : (chRow g n k)[i]? = some (.chan (some (g + 1 + i))) := by simp [chRow, h, hk]
theorem chRow_at' (g n k i : Nat) (h : i < n) : (chRow g n k)[i]? = some (if i < k then Value.chan (some (g + 1 + i)) else .chan none) := by simp [chRow, h]
theorem chRow_set (g n k : Nat) : (chRow g n k).setIfInBounds k (.chan (some (g + 1 + k))) = chRow g n (k + 1) := by
  unfold chRow
  rw [List.setIfInBounds_toArray]
  congr 1
  apply List.ext_getElem?
  intro i
  simp only [List.getElem?_set, List.length_map, List.length_range, List.getElem?_map]
  by_cases hi : i < n
  · rw [List.getElem?_range hi]
    by_cases e : k = i
    · subst e; simp [hi]
    · have : (i < k + 1) ↔ i < k := by omega
      simp [e, this]
  · rw [List.getElem?_eq_none (by simpa using hi)]
    simp; omega
theorem chRow_made (g n : Nat) : madeCells #[.chan none] n = chRow g n 0 := by
  apply Array.ext
  · simp [madeCells, chRow]
  · intro i h1 h2; simp [madeCells, chRow, Nat.mod_one]

/-- Permits: bs says who has one. The row is block g, the channels are behind it, the struct is behind these. -/
structure Pm (w : World) (g n : Nat) (bs : List Bool) : Prop where
  len : bs.length = n
  ptr : Bk w (g + 1 + n) 63 #[.slice (some ⟨g, 0, none⟩) n n]
  row : Bk w g 61 (chRow g n n)
  chs : ∀ i, i < n → Ch w (g + 1 + i) (nthO false bs i)
  few : n ≤ 64
  one : 1 ≤ n

/-- The blocks that giving and taking may change: the channels. -/
def InPm (g n b : Nat) : Prop := g < b ∧ b ≤ g + n

section
variable {w w' : World} {g n : Nat} {bs : List Bool}
theorem Pm.kept {S : Nat → Prop} (h : Pm w g n bs) (k : Within w w' S) (hn : ∀ b, g ≤ b → b ≤ g + 1 + n → ¬ S b) : Pm w' g n bs := by
  refine ⟨h.len, h.ptr.within k (hn _ (by omega) (by omega)), h.row.within k (hn _ (by omega) (by omega)), fun i hi => ?_, h.few, h.one⟩
  obtain ⟨s, r, hc⟩ := h.chs i hi
  exact ⟨s, r, (k.block _ (Array.getElem?_eq_some_iff.1 hc).1 (hn _ (by omega) (by omega))).trans hc⟩
theorem Pm.grown (h : Pm w g n bs) (k : w.grownBy w' none) : Pm w' g n bs := h.kept (S := fun _ => False) (.of_grown k (by simp)) (by simp)
theorem Pm.drewN (h : Pm w g n bs) (m : Nat) : Pm (w.drewN m) g n bs := ⟨h.len, h.ptr, h.row, h.chs, h.few, h.one⟩
theorem Pm.c0 (h : Pm w g n bs) : w.cell? ⟨g + 1 + n, 0, none⟩ = some (.slice (some ⟨g, 0, none⟩) n n) := by rw [h.ptr.cell]; rfl
theorem Pm.at_ (h : Pm w g n bs) {i : Nat} (hi : i < n) : w.cell? ⟨g, i, none⟩ = some (.chan (some (g + 1 + i))) := by rw [h.row.cell, chRow_at _ _ _ _ hi hi]
theorem Pm.lt (h : Pm w g n bs) : g + 1 + n < w.heap.size := h.ptr.lt
/-- A thread's channel is another one. -/
theorem Pm.put (h : Pm w g n bs) {t : Nat} (ht : t < n) (b : Bool) (s r : Nat) : Pm (w.setChan (g + 1 + t) 1 (chBuf b) false s r false) g n (bs.set t b) := by
  have hl := h.lt
  have hn := h.len
  refine ⟨by simpa using hn, h.ptr.chan (by omega), h.row.chan (by omega), fun i hi => ?_, h.few, h.one⟩
  rw [nthO_set (by omega)]
  by_cases e : t = i
  · subst e; rw [if_pos rfl]; exact ⟨s, r, heap_setChan _ _ _ _ _ _ _ _ (by omega)⟩
  · rw [if_neg e]
    obtain ⟨s', r', hc⟩ := h.chs i hi
    exact ⟨s', r', (chan_other (by omega)).trans hc⟩

theorem pIs (h : Pm w g n bs) (t : Nat) (ht : t < n) :
    Calls Try.prog 30 #[.pointer (some ⟨g + 1 + n, 0, none⟩), .int .i64 t] w fun e w' => e = .returned (.bool true) ∧ w = w' := by
  have h0 := h.c0
  have hf := h.few
  go_enter Try.func30, Try.ntmps30
  go_wp2
  go_ret
  exact ⟨rfl, rfl⟩

theorem pIsNo (h : Pm w g n bs) (t : Int) (ht : t < 0 ∨ n ≤ t) :
    Calls Try.prog 30 #[.pointer (some ⟨g + 1 + n, 0, none⟩), .int .i64 t] w fun e w' => e = .returned (.bool false) ∧ w = w' := by
  have h0 := h.c0
  have hf := h.few
  rcases ht with ht | ht
  · go_enter Try.func30, Try.ntmps30
    go_wp2
    go_ret
    exact ⟨rfl, rfl⟩
  · have h1 : 0 ≤ t := by omega
    go_enter Try.func30, Try.ntmps30
    go_wp2
    go_ret
    exact ⟨ret_bool (decide_eq_false (by omega)), rfl⟩

theorem pHas (h : Pm w g n bs) (t : Nat) (ht : t < n) :
    Calls Try.prog 29 #[.pointer (some ⟨g + 1 + n, 0, none⟩), .int .i64 t] w fun e w' => e = .returned (.bool (nthO false bs t)) ∧ w = w' := by
  have h0 := h.c0
  have h1 := h.at_ ht
  have hf := h.few
  obtain ⟨s, r, hc⟩ := h.chs t ht
  have hlen := fun ty => run_len_chan (P := Try.prog) 61 ty Try.underlying61 hc
  cases hb : nthO false bs t <;> rw [hb] at hlen <;> simp only [chBuf, if_true, if_false, Bool.false_eq_true] at hlen
  all_goals
    go_enter Try.func29, Try.ntmps29
    go_wp2_with fail
    refine (pIs h t ht).mono ?_
    rintro e w' ⟨rfl, rfl⟩
    go_wp2
    go_ret
    exact ⟨rfl, rfl⟩

theorem pHasNo (h : Pm w g n bs) (t : Int) (ht : t < 0 ∨ n ≤ t) :
    Calls Try.prog 29 #[.pointer (some ⟨g + 1 + n, 0, none⟩), .int .i64 t] w fun e w' => e = .returned (.bool false) ∧ w = w' := by
  have h0 := h.c0
  go_enter Try.func29, Try.ntmps29
  go_wp2_with fail
  refine (pIsNo h t ht).mono ?_
  rintro e w' ⟨rfl, rfl⟩
  go_wp2
  go_ret
  exact ⟨rfl, rfl⟩

theorem pGiveNo (h : Pm w g n bs) (t : Int) (ht : t < 0 ∨ n ≤ t) :
    Calls Try.prog 26 #[.pointer (some ⟨g + 1 + n, 0, none⟩), .int .i64 t] w fun e w' => e = .returned (.tuple #[.bool false, .int .i64 4]) ∧ w = w' := by
  go_enter Try.func26, Try.ntmps26
  go_wp2_with fail
  refine (pIsNo h t ht).mono ?_
  rintro e w' ⟨rfl, rfl⟩
  go_wp2
  go_ret2
  exact ⟨rfl, rfl⟩

theorem pTakeNo (h : Pm w g n bs) (t : Int) (ht : t < 0 ∨ n ≤ t) :
    Calls Try.prog 28 #[.pointer (some ⟨g + 1 + n, 0, none⟩), .int .i64 t] w fun e w' => e = .returned (.tuple #[.bool false, .int .i64 4]) ∧ w = w' := by
  go_enter Try.func28, Try.ntmps28
  go_wp2_with fail
  refine (pIsNo h t ht).mono ?_
  rintro e w' ⟨rfl, rfl⟩
  go_wp2
  go_ret2
  exact ⟨rfl, rfl⟩
end
end Go.Proofs.Ytjdnellafephfaa
