/- A pool of one thread whose nodes go out and come back one at a time, for the laws that do so: which handle goes out at the i-th turn, and what each call does then. -/
import Derived.Test.YteeaminfhpcdmaaPoolC
namespace Go.Proofs.Yteeaminfhpcdmaa
open Go.ChangeShapes Go.WideShapes Go.ChangeAt Go.RowKit

/-- The handle that goes out at turn i, of k nodes. -/
def hd (k i : Nat) : Int := ((i / k * 4096 + 1 + i % k : Nat) : Int)
/-- The k free ones at turn i. -/
def seqs (k i : Nat) : List Int := (List.range k).map fun j => hd k (i + j)
theorem seqs_len (k i : Nat) : (seqs k i).length = k := by simp [seqs]
theorem seqs_cons (k i : Nat) (hk : 0 < k) : seqs k i = hd k i :: (seqs k i).tail := by
  obtain ⟨m, rfl⟩ : ∃ m, k = m + 1 := ⟨k - 1, by omega⟩
  simp [seqs, List.range_succ_eq_map]
theorem seqs_next (k i : Nat) (hk : 0 < k) : (seqs k i).tail ++ [hd k (i + k)] = seqs k (i + 1) := by
  apply List.ext_getElem?
  intro j
  rw [List.getElem?_append]
  simp only [List.length_tail, seqs_len, List.getElem?_tail]
  by_cases h1 : j < k - 1
  · rw [if_pos h1]
    simp [seqs, show j + 1 < k by omega, show j < k by omega]
    congr 1; omega
  · rw [if_neg h1]
    by_cases h2 : j = k - 1
    · subst h2
      obtain ⟨m, rfl⟩ : ∃ m, k = m + 1 := ⟨k - 1, by omega⟩
      rw [Nat.sub_self, List.getElem?_cons_zero]
      unfold seqs
      rw [List.getElem?_map, List.getElem?_range (by omega), Option.map_some, show i + 1 + (m + 1 - 1) = i + (m + 1) by omega]
    · rw [List.getElem?_eq_none (by simp; omega), List.getElem?_eq_none (by rw [seqs_len]; omega)]
theorem firsts_seqs (k : Nat) : firsts 0 k k = seqs k 0 := by
  unfold firsts seqs
  apply List.map_congr_left
  intro j hj
  have hj' : j < k := List.mem_range.1 hj
  unfold hd
  rw [Nat.zero_add, Nat.div_eq_of_lt hj', Nat.mod_eq_of_lt hj']
  simp
theorem hd_facts (k i : Nat) (h1 : 1 ≤ k) (h8 : k ≤ 8) (hi : i ≤ 1000) : 0 < hd k i ∧ hd k i < 4294967296 ∧ hd k i % 4096 = ((0 * k + i % k + 1 : Nat) : Int) ∧ hd k i / 4096 % 262144 = ((i / k : Nat) : Int) ∧ i % k < k ∧ nxt (hd k i) = hd k (i + k) := by
  have hm : i % k < k := Nat.mod_lt _ h1
  have hd1 : i / k ≤ 1000 := Nat.le_trans (Nat.div_le_self _ _) hi
  have e1 : (i + k) / k = i / k + 1 := Nat.add_div_right i h1
  have e2 : (i + k) % k = i % k := Nat.add_mod_right i k
  unfold nxt hd
  rw [e1, e2]
  generalize i / k = g at *
  generalize i % k = m at *
  refine ⟨by omega, by omega, by omega, by omega, hm, by omega⟩
theorem hd_inj {k i j : Nat} (h1 : 1 ≤ k) (h8 : k ≤ 8) (h : hd k i = hd k j) : i = j := by
  have hmi : i % k < k := Nat.mod_lt _ h1
  have hmj : j % k < k := Nat.mod_lt _ h1
  have ei := Nat.div_add_mod i k
  have ej := Nat.div_add_mod j k
  unfold hd at h
  have hg : i / k = j / k := by omega
  have hr : i % k = j % k := by omega
  rw [← ei, ← ej, hg, hr]

/-- At the head of turn i: all k nodes are free. -/
def At (w : World) (p k : Nat) (M : PM) (i : Nat) : Prop := ∃ fr os, fr 0 = seqs k i ∧ (∀ x, os x = false) ∧ Pl w p 1 k M fr os 0
/-- One node is out. -/
def Mid (w : World) (p k : Nat) (M : PM) (i : Nat) : Prop := ∃ fr os, fr 0 = (seqs k i).tail ∧ os (hd k i) = true ∧ (∀ x, x ≠ hd k i → os x = false) ∧ Pl w p 1 k M fr os 1

section
variable {w w' : World} {p k i : Nat} {M : PM}
theorem At.drewN (h : At w p k M i) (m : Nat) : At (w.drewN m) p k M i := by obtain ⟨fr, os, h1, h2, h3⟩ := h; exact ⟨fr, os, h1, h2, h3.drewN m⟩
theorem Mid.drewN (h : Mid w p k M i) (m : Nat) : Mid (w.drewN m) p k M i := by obtain ⟨fr, os, h1, h2, h3, h4⟩ := h; exact ⟨fr, os, h1, h2, h3, h4.drewN m⟩
theorem At.grown (h : At w p k M i) (g : w.grownBy w' none) : At w' p k M i := by obtain ⟨fr, os, h1, h2, h3⟩ := h; exact ⟨fr, os, h1, h2, h3.grown g⟩
theorem At.lt (h : At w p k M i) {b : Nat} (hb : M.Has 1 b) : b < w.heap.size := by obtain ⟨fr, os, h1, h2, h3⟩ := h; exact h3.lt hb
theorem At.row_lt (h : At w p k M i) : M.g < w.heap.size := by obtain ⟨fr, os, h1, h2, h3⟩ := h; exact h3.g_lt
theorem At.kept {S : Nat → Prop} (h : At w p k M i) (hk : Within w w' S) (hS : ∀ b, S b → ¬ M.Has 1 b ∧ b ≠ p ∧ b ≠ M.g) : At w' p k M i := by
  obtain ⟨fr, os, h1, h2, h3⟩ := h
  exact ⟨fr, os, h1, h2, h3.kept hk (fun e => (hS _ e).2.1 rfl) (fun e => (hS _ e).2.2 rfl) (fun b hb e => (hS b e).1 hb)⟩

/-- Behind a call that goes well: the answer v, and what R says of where the pool lies now. -/
def Goes (w : World) (M : PM) (v : Value) (R : World → PM → Prop) (e : Ending) (w' : World) : Prop := ∃ M', e = .returned v ∧ R w' M' ∧ Stays w 1 M w' M'

theorem tTake (h : At w p k M i) (h1 : 1 ≤ k) (h8 : k ≤ 8) (hi : i ≤ 1000) :
    Calls Try.prog 14 #[.pointer (some ⟨p, 0, none⟩), .int .i64 0] w (Goes w M (.tuple #[.int .u32 (hd k i), .int .i64 0]) fun w' M' => Mid w' p k M' i) := by
  obtain ⟨f1, f2, f3, f4, f5, f6⟩ := hd_facts k i h1 h8 hi
  obtain ⟨fr, os, e1, e2, h⟩ := h
  refine (plTake h (by omega) 0 (by omega) (x := hd k i) (vs := (seqs k i).tail) (by rw [e1]; exact seqs_cons k i h1) (by omega) f2 (e2 _)).mono ?_
  rintro e w' ⟨M', rfl, h', s'⟩
  exact ⟨M', rfl, ⟨_, _, upd_same _ _ _, turn_same _ _ _, fun x hx => by rw [turn_other hx]; exact e2 x, h'⟩, s'⟩

theorem tFree (h : Mid w p k M i) (h1 : 1 ≤ k) (h8 : k ≤ 8) (hi : i ≤ 1000) :
    Calls Try.prog 12 #[.pointer (some ⟨p, 0, none⟩), .int .u32 (hd k i)] w (Goes w M (.int .i64 0) fun w' M' => At w' p k M' (i + 1)) := by
  obtain ⟨f1, f2, f3, f4, f5, f6⟩ := hd_facts k i h1 h8 hi
  obtain ⟨fr, os, e1, e2, e3, h⟩ := h
  refine (plFree h (hd k i) (by omega) f2 e2 (t := 0) (i := i % k) f5 (by omega) f3 (by rw [e1, List.length_tail, seqs_len]; omega)).mono ?_
  rintro e w' ⟨M', rfl, h', s'⟩
  refine ⟨M', rfl, ⟨_, _, ?_, fun x => ?_, h'⟩, s'⟩
  · rw [upd_same, e1, f6, seqs_next k i h1]
  · by_cases hx : x = hd k i
    · rw [hx, turn_same]
    · rw [turn_other hx]; exact e3 x hx

theorem tOut1 (h : Mid w p k M i) (h1 : 1 ≤ k) :
    Calls Try.prog 19 #[.pointer (some ⟨p, 0, none⟩), .int .i64 0] w fun e w' => e = .returned (.int .i64 1) ∧ ∃ m, w' = w.drewN m := by
  obtain ⟨fr, os, e1, e2, e3, h⟩ := h
  refine (plOut h 0 (by omega)).mono ?_
  rintro e w' ⟨rfl, hm⟩
  refine ⟨?_, hm⟩
  rw [e1, List.length_tail, seqs_len]
  exact ret_int (by omega)
theorem tOut0 (h : At w p k M i) :
    Calls Try.prog 19 #[.pointer (some ⟨p, 0, none⟩), .int .i64 0] w fun e w' => e = .returned (.int .i64 0) ∧ ∃ m, w' = w.drewN m := by
  obtain ⟨fr, os, e1, e2, h⟩ := h
  refine (plOut h 0 (by omega)).mono ?_
  rintro e w' ⟨rfl, hm⟩
  refine ⟨?_, hm⟩
  rw [e1, seqs_len]
  exact ret_int (by omega)
theorem tTotal (h : At w p k M i) :
    Calls Try.prog 18 #[.pointer (some ⟨p, 0, none⟩)] w fun e w' => e = .returned (.int .i64 0) ∧ w = w' := by
  obtain ⟨fr, os, e1, e2, h⟩ := h
  exact plTotal h
theorem tIs (h : At w p k M i) (x : Int) (h0 : 0 ≤ x) (h1 : x < 4294967296) :
    Calls Try.prog 10 #[.pointer (some ⟨p, 0, none⟩), .int .u32 x] w fun e w' => e = .returned (.bool false) ∧ w = w' := by
  obtain ⟨fr, os, e1, e2, h⟩ := h
  have := plIs h x h0 h1
  rw [e2] at this
  exact this
theorem tFreeNo (h : At w p k M i) (x : Int) (h0 : 0 < x) (h1 : x < 4294967296) :
    Calls Try.prog 12 #[.pointer (some ⟨p, 0, none⟩), .int .u32 x] w fun e w' => e = .returned (.int .i64 10) ∧ ∃ m, w' = w.drewN m := by
  obtain ⟨fr, os, e1, e2, h⟩ := h
  exact plFreeNo h x (by omega) h1 (e2 x) (by omega)

/-- A new pool of one thread. -/
def OneMade (w : World) (k : Nat) (e : Ending) (w' : World) : Prop :=
  ∃ p M, e = .returned (.tuple #[.pointer (some ⟨p, 0, none⟩), .int .i64 0]) ∧ At w' p k M 0 ∧ w.grownBy w' none ∧ ∀ i, M.Has 1 i → w.heap.size ≤ i
theorem tNew (k : Nat) (h8 : k ≤ 8) (w : World) : Calls Try.prog 8 #[.int .i64 1, .int .i64 k] w (OneMade w k) := by
  refine (plNew 1 k (by omega) (by omega) h8 w).mono ?_
  rintro e w1 ⟨p, M, rfl, h, g, m, _, _⟩
  exact ⟨p, M, rfl, ⟨_, _, firsts_seqs k, fun _ => rfl, h⟩, g, m⟩
end
end Go.Proofs.Yteeaminfhpcdmaa
