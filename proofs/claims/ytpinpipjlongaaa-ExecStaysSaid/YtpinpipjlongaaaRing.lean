/- RingWord, RingWordB, Set, one behind the other. -/
import Derived.Test.YtpinpipjlongaaaRow
import Derived.Deep.QuietTactic
import Derived.BigQuiet
import Derived.StillTailTactics
import Derived.Deep.RegionHeld3
import Derived.RegionTactic
import Derived.Laws.Pointers
import Derived.Maps.OwnSet
/- What each function of layer 3 (ring) returns at values of one cell (here: uint32), and what the ring is then: one contract a function, for every ring and every value. -/
namespace Go.Proofs.Ytpinpipjlongaaa.RWord
set_option maxRecDepth 100000
open Go.ChangeShapes Go.WideShapes Go.ChangeAt Go.RowKit

/-- A value, as the cell that it is. -/
abbrev C (x : Int) : Value := .int .u32 x
/-- Where a value lies that has i others ahead of it. -/
def plc (f i n : Nat) : Nat := (f + i) % n
theorem plc_lt {f i n : Nat} (h : 0 < n) : plc f i n < n := Nat.mod_lt _ h
theorem plc_is {f i n : Nat} (hf : f < n) (hi : i ≤ n) : plc f i n = if f + i < n then f + i else f + i - n := by
  unfold plc
  split
  · exact Nat.mod_eq_of_lt (by omega)
  · rw [Nat.mod_eq_sub_mod (by omega)]; exact Nat.mod_eq_of_lt (by omega)
theorem plc_zero {i n : Nat} (hi : i < n) : plc 0 i n = i := by unfold plc; rw [Nat.zero_add]; exact Nat.mod_eq_of_lt hi
theorem plc_ne {f i j n : Nat} (hf : f < n) (hi : i < j) (hj : j < n) : plc f i n ≠ plc f j n := by
  rw [plc_is hf (by omega), plc_is hf (by omega)]; split <;> split <;> omega
theorem plc_next {f i n : Nat} (hf : f < n) (hi : i + 1 ≤ n) : plc (plc f 1 n) i n = plc f (i + 1) n := by
  rw [plc_is (f := plc f 1 n) (plc_lt (by omega)) (by omega), plc_is (i := i + 1) hf hi, plc_is (i := 1) hf (by omega)]
  repeat' split
  all_goals omega
theorem plc_first {f n : Nat} (hf : f < n) : plc f 0 n = f := by rw [plc_is hf (by omega), if_pos (by omega)]; rfl

def Hd (w : World) (p : Nat) (a : Option Addr) (n f c r : Nat) : Prop := Bk w p 152 #[.slice a n n, .int .i64 f, .int .i64 c, .int .i64 r]

section
variable {w : World} {p : Nat} {a : Option Addr} {n f c r : Nat}
theorem Hd.c0 (h : Hd w p a n f c r) : w.cell? ⟨p, 0, none⟩ = some (.slice a n n) := by rw [Bk.cell h]; rfl
theorem Hd.c1 (h : Hd w p a n f c r) : w.cell? ⟨p, 1, none⟩ = some (.int .i64 f) := by rw [Bk.cell h]; rfl
theorem Hd.c2 (h : Hd w p a n f c r) : w.cell? ⟨p, 2, none⟩ = some (.int .i64 c) := by rw [Bk.cell h]; rfl
theorem Hd.c3 (h : Hd w p a n f c r) : w.cell? ⟨p, 3, none⟩ = some (.int .i64 r) := by rw [Bk.cell h]; rfl

theorem place_any (h : Hd w p a n f c r) (hn : 0 < n) (hf : f ≤ 4096) (hm : n ≤ 4096) (i : Nat) (hi : i ≤ 4096) :
    Calls Try.prog 76 #[.pointer (some ⟨p, 0, none⟩), .int .i64 i] w fun e w' => e = .returned (.int .i64 (plc f i n)) ∧ ∃ m, w' = w.drewN m := by
  have c0 := h.c0
  have c1 := h.c1
  have hz : ¬ (n : Int) = 0 := by omega
  go_enter Try.func76, Try.ntmps76
  go_wp2
  go_quiet (fail)
  go_wp2
  go_ret
  exact ⟨ret_int (by simp [plc]), _, rfl⟩


end

/-- What a ring is in memory: the struct is block p; the places, where there are any, are block g; cs is what lies there, vs are the values. -/
structure In (w : World) (p : Nat) (og : Option Nat) (n f room : Nat) (cs vs : List Int) : Prop where
  hd : Hd w p (og.map fun g => ⟨g, 0, none⟩) n f vs.length room
  row : ∀ g, og = some g → Bk w g 49 (rowOf C cs)
  len : cs.length = n
  fits : vs.length ≤ n
  most : n ≤ room
  few : room ≤ 4096
  at_ : ∀ i, i < vs.length → nthO 0 vs i = nthO 0 cs (plc f i n)
  some_ : ∀ g, og = some g → f < n
  none_ : og = none → n = 0 ∧ f = 0

/-- A ring: room for so many, the values vs. -/
def Rg (w : World) (p : Nat) (og : Option Nat) (room : Nat) (vs : List Int) : Prop := ∃ n f cs, In w p og n f room cs vs

section
variable {w w' : World} {p : Nat} {og : Option Nat} {n f room : Nat} {cs vs : List Int}
theorem In.draws (h : In w p og n f room cs vs) (k : Nat) : In (w.drewN k) p og n f room cs vs := ⟨h.hd, h.row, h.len, h.fits, h.most, h.few, h.at_, h.some_, h.none_⟩
theorem In.same (h : In w p og n f room cs vs) (e : w'.heap = w.heap) : In w' p og n f room cs vs :=
  ⟨by have := h.hd; unfold Hd Bk at *; rw [e]; exact this, fun g k => by have := h.row g k; unfold Bk at *; rw [e]; exact this, h.len, h.fits, h.most, h.few, h.at_, h.some_, h.none_⟩
theorem In.kept {S : Nat → Prop} (h : In w p og n f room cs vs) (k : Within w w' S) (h1 : ¬ S p) (h2 : ∀ g, og = some g → ¬ S g) : In w' p og n f room cs vs :=
  ⟨Bk.within h.hd k h1, fun g e => Bk.within (h.row g e) k (h2 g e), h.len, h.fits, h.most, h.few, h.at_, h.some_, h.none_⟩
theorem In.ne {g : Nat} (h : In w p og n f room cs vs) (e : og = some g) : p ≠ g := Bk.unlike h.hd (h.row g e) (by decide)
theorem In.lt {g : Nat} (h : In w p og n f room cs vs) (e : og = some g) : g < w.heap.size := (h.row g e).lt
theorem Rg.draws (h : Rg w p og room vs) (k : Nat) : Rg (w.drewN k) p og room vs := by obtain ⟨n, f, cs, h⟩ := h; exact ⟨n, f, cs, h.draws k⟩
theorem Rg.kept {S : Nat → Prop} (h : Rg w p og room vs) (k : Within w w' S) (h1 : ¬ S p) (h2 : ∀ g, og = some g → ¬ S g) : Rg w' p og room vs := by
  obtain ⟨n, f, cs, h⟩ := h; exact ⟨n, f, cs, h.kept k h1 h2⟩
theorem Rg.len_le (h : Rg w p og room vs) : vs.length ≤ room ∧ room ≤ 4096 := by
  obtain ⟨n, f, cs, h⟩ := h; exact ⟨Nat.le_trans h.fits h.most, h.few⟩
theorem Rg.p_lt (h : Rg w p og room vs) : p < w.heap.size := by obtain ⟨n, f, cs, h⟩ := h; exact Bk.lt h.hd
theorem Rg.g_lt {g : Nat} (h : Rg w p og room vs) (e : og = some g) : g < w.heap.size := by obtain ⟨n, f, cs, h⟩ := h; exact h.lt e

/-- One more, last: in the free place behind the last one. -/
theorem In.more {g : Nat} (h : In w p (some g) n f room cs vs) (hv : vs.length < n) (v : Int) :
    In ((w.setCell ⟨g, plc f vs.length n, none⟩ (C v)).setCell ⟨p, 2, none⟩ (.int .i64 ((vs.length + 1 : Nat) : Int))) p (some g) n f room (cs.set (plc f vs.length n) v) (vs ++ [v]) := by
  have hf := h.some_ g rfl
  have hl := h.len
  refine ⟨?_, ?_, by simpa using hl, by simp; omega, h.most, h.few, ?_, h.some_, h.none_⟩
  · have h1 := Bk.put (Bk.off h.hd (p := ⟨g, plc f vs.length n, none⟩) (h.ne rfl) (C v)) 2 (.int .i64 ((vs.length + 1 : Nat) : Int))
    unfold Hd
    rw [List.length_append]
    exact h1
  · intro g' e
    obtain rfl : g = g' := by injection e
    have h1 := (h.row g rfl).put (plc f vs.length n) (C v)
    rw [rowOf_set] at h1
    exact h1.off (p := ⟨p, 2, none⟩) (h.ne rfl).symm _
  · intro i hi
    simp only [List.length_append, List.length_cons, List.length_nil, Nat.zero_add] at hi
    rw [nthO_set (by rw [hl]; exact plc_lt (by omega))]
    by_cases e : i = vs.length
    · subst e; rw [if_pos rfl, nthO_append_eq]
    · rw [if_neg (plc_ne hf (by omega) hv).symm, nthO_append_lt (by omega)]
      exact h.at_ i (by omega)

/-- The first one out. -/
theorem In.less {g : Nat} {v : Int} (h : In w p (some g) n f room cs (v :: vs)) :
    In (((w.setCell ⟨g, f, none⟩ (C 0)).setCell ⟨p, 1, none⟩ (.int .i64 (plc f 1 n))).setCell ⟨p, 2, none⟩ (.int .i64 vs.length)) p (some g) n (plc f 1 n) room (cs.set f 0) vs := by
  have hf := h.some_ g rfl
  have hl := h.len
  have hfit := h.fits
  simp only [List.length_cons] at hfit
  refine ⟨?_, ?_, by simpa using hl, by omega, h.most, h.few, ?_, fun _ _ => plc_lt (by omega), fun e => (by cases e)⟩
  · have h1 := Bk.put (Bk.put (Bk.off h.hd (p := ⟨g, f, none⟩) (h.ne rfl) (C 0)) 1 (.int .i64 (plc f 1 n))) 2 (.int .i64 vs.length)
    exact h1
  · intro g' e
    obtain rfl : g = g' := by injection e
    have h1 := (h.row g rfl).put f (C 0)
    rw [rowOf_set] at h1
    exact (h1.off (p := ⟨p, 1, none⟩) (h.ne rfl).symm _).off (p := ⟨p, 2, none⟩) (h.ne rfl).symm _
  · intro i hi
    have h1 := h.at_ (i + 1) (by simp; omega)
    have h2 := plc_ne (n := n) hf (i := 0) (j := i + 1) (by omega) (by omega)
    rw [plc_first hf] at h2
    rw [plc_next hf (by omega), nthO_set (by rw [hl]; exact hf), if_neg h2, ← h1]
    simp [nthO]
end

section
variable {w : World} {p : Nat} {a : Option Addr} {n f r : Nat}
theorem lay_any {g q : Nat} {cs vs ds : List Int} (h : Hd w p (some ⟨g, 0, none⟩) n f vs.length r) (hrow : Bk w g 49 (rowOf C cs)) (hl : cs.length = n) (hn : 0 < n) (hf : f ≤ 4096) (hm : n ≤ 4096) 
    (hat : ∀ i, i < vs.length → nthO 0 vs i = nthO 0 cs (plc f i n)) (hq : Bk w q 49 (rowOf C ds)) (hd : vs.length ≤ ds.length) (hdm : ds.length ≤ 4096) (hqp : p ≠ q) (hqg : g ≠ q) :
    Calls Try.prog 80 #[.pointer (some ⟨p, 0, none⟩), .slice (some ⟨q, 0, none⟩) ds.length ds.length] w fun e w' => e = .returned (.tuple #[]) ∧ Bk w' q 49 (rowOf C (layTo vs ds vs.length)) ∧ Only w w' q := by
  have c2 := h.c2
  have HAT := Lib.hid hat
  have HL := Lib.hid hl
  clear hat hl
  go_enter Try.func80, Try.ntmps80
  go_wp2
  go_loopw [9] (fun i wr => ∃ k : Nat, k ≤ vs.length ∧ i = .int .i64 k ∧ Bk wr q 49 (rowOf C (layTo vs ds k)) ∧ Only w wr q) (fun i _ => vs.length - (intOf i).toNat)
  case atStart => exact ⟨0, Nat.zero_le _, rfl, by rw [layTo_0]; exact hq, grown_refl _ _⟩
  case round =>
    obtain ⟨k, hk, rfl, hb, hw⟩ := hrel
    by_cases hlt : k < vs.length
    · have h1 : Hd wr p (some ⟨g, 0, none⟩) n f vs.length r := Bk.grown h hw (by simp [hqp])
      have hg1 := Bk.grown hrow hw (by simp [hqg])
      have d0 := h1.c0
      have hpl : plc f k n < n := plc_lt hn
      have e1 : wr.cell? ⟨g, plc f k n, none⟩ = some (C (nthO 0 vs k)) := by rw [hg1.cell, rowOf_at (z := 0) C (by rw [HL.out]; exact hpl), HAT.out k hlt]
      have e2 : wr.cell? ⟨q, k, none⟩ = some (C (nthO 0 (layTo vs ds k) k)) := by rw [hb.cell, rowOf_at (z := 0) C (by rw [layTo_len _ _ _ (by omega) (by omega)]; omega)]
      have hz := hb.free k
      have b1 : (k : Int) < ds.length := by omega
      have b2 : k < ds.length := by omega
      have b3 : (plc f k n : Int) < n := by omega
      have k1 : ∀ (W : World) (u : Value) (i j : Nat), (W.setCell ⟨q, i, none⟩ u).cell? ⟨p, j, none⟩ = W.cell? ⟨p, j, none⟩ := fun W u i j => cell_off hqp
      have k2 : ∀ (W : World) (u : Value) (i j : Nat), (W.setCell ⟨q, i, none⟩ u).cell? ⟨g, j, none⟩ = W.cell? ⟨g, j, none⟩ := fun W u i j => cell_off hqg
      go_wp2
      go_region_held3 (fun w' => w'.cell? ⟨p, 0, none⟩ = some (Value.slice (some ⟨g, 0, none⟩) n n) ∧ w'.cell? ⟨g, plc f k n, none⟩ = some (C (nthO 0 vs k))) (go_keep)
        (first | (go_at_call 76; refine (place_any (w := wr.drew) h1 hn hf hm k (by omega)).mono ?_; rintro e w' ⟨rfl, m, rfl⟩))
      have hp := hb.put k (C (nthO 0 vs k))
      rw [rowOf_set, layTo_set vs ds k hlt b2] at hp
      clear k1 k2 e1 e2 d0 hz
      go_wp2
      go_roundw
      case rel => exact ⟨k + 1, by omega, by go_num, hp, grown_then (grown_draws hw _) (only_put _ _ _ _) (.inl rfl)⟩
      case measure => simp [intOf]; omega
    · obtain rfl : k = vs.length := by omega
      go_wp2
      go_end0
      exact ⟨rfl, hb, hw⟩

theorem lay_nil {q m : Nat} (h : Hd w p a n f 0 r) :
    Calls Try.prog 80 #[.pointer (some ⟨p, 0, none⟩), .slice (some ⟨q, 0, none⟩) m m] w fun e w' => e = .returned (.tuple #[]) ∧ w = w' := by
  have c2 := h.c2
  go_enter Try.func80, Try.ntmps80
  go_wp2
  go_loopw [9] (fun i wr => i = .int .i64 0 ∧ w = wr) (fun _ _ => 0)
  case atStart => exact ⟨rfl, rfl⟩
  case round =>
    obtain ⟨rfl, rfl⟩ := hrel
    go_wp2
    go_end0
    exact ⟨rfl, rfl⟩

theorem lay_in {og : Option Nat} {q : Nat} {cs vs ds : List Int} (h : In w p og n f r cs vs) (hq : Bk w q 49 (rowOf C ds)) (hd : vs.length ≤ ds.length) (hdm : ds.length ≤ 4096) (hqp : p ≠ q) (hqg : og ≠ some q) :
    Calls Try.prog 80 #[.pointer (some ⟨p, 0, none⟩), .slice (some ⟨q, 0, none⟩) ds.length ds.length] w fun e w' => e = .returned (.tuple #[]) ∧ Bk w' q 49 (rowOf C (layTo vs ds vs.length)) ∧ Only w w' q := by
  have hm := h.most
  have hf := h.few
  have hfit := h.fits
  cases og with
  | none =>
    obtain ⟨rfl, rfl⟩ := h.none_ rfl
    have e : vs = [] := List.eq_nil_of_length_eq_zero (by omega)
    subst e
    refine (lay_nil (q := q) (m := ds.length) h.hd).mono ?_
    rintro e w' ⟨rfl, rfl⟩
    exact ⟨rfl, by rw [List.length_nil, layTo_0]; exact hq, grown_refl _ _⟩
  | some g =>
    have hfn := h.some_ g rfl
    exact lay_any h.hd (h.row g rfl) h.len (by omega) (by omega) (by omega) h.at_ hq hd hdm hqp (fun e => hqg (by rw [e]))

/-- How room is held. -/
def held (x : Int) : Nat := if x < 0 then 0 else if 4096 < x then 4096 else x.toNat
theorem held_le (x : Int) : held x ≤ 4096 := by unfold held; split <;> (try split) <;> omega

theorem new_in (w : World) (t : Nat) (ht : t ≤ 4096) : In (w.alloc (.cells #[.slice none 0 0, .int .i64 0, .int .i64 0, .int .i64 (t : Nat)] 152)) w.heap.size none 0 0 t [] [] :=
  ⟨Bk.made _ _ _, fun _ h => (by cases h), rfl, Nat.le_refl _, Nat.zero_le _, ht, fun i h => absurd h (by simp), fun _ h => (by cases h), fun _ => ⟨rfl, rfl⟩⟩

theorem new_any (x : Int) (w : World) :
    Calls Try.prog 53 #[.int .i64 x] w fun e w' => e = .returned (.pointer (some ⟨w.heap.size, 0, none⟩)) ∧ Rg w' w.heap.size none (held x) [] ∧ w.grownBy w' none := by
  rcases (show x < 0 ∨ 4096 < x ∨ (0 ≤ x ∧ x ≤ 4096) by omega) with h | h | h
  · have e : held x = 0 := by unfold held; rw [if_pos h]
    rw [e]
    clear e
    go_enter Try.func53, Try.ntmps53
    go_wp2
    go_ret
    exact ⟨rfl, ⟨_, _, _, new_in w 0 (by omega)⟩, grown_made _ _ _⟩
  · have e : held x = 4096 := by unfold held; rw [if_neg (by omega), if_pos h]
    rw [e]
    have h0 : ¬ x < 0 := by omega
    clear e
    go_enter Try.func53, Try.ntmps53
    go_wp2
    go_ret
    exact ⟨rfl, ⟨_, _, _, new_in w 4096 (by omega)⟩, grown_made _ _ _⟩
  · have e : held x = x.toNat := by unfold held; rw [if_neg (by omega), if_neg (by omega)]
    rw [e]
    clear e
    obtain ⟨t, rfl⟩ := Int.eq_ofNat_of_zero_le h.1
    rw [Int.toNat_natCast]
    have h1 : ¬ (t : Int) < 0 := by omega
    have h2 : ¬ 4096 < (t : Int) := by omega
    go_enter Try.func53, Try.ntmps53
    go_wp2
    go_ret
    exact ⟨rfl, ⟨_, _, _, new_in w t (by omega)⟩, grown_made _ _ _⟩

theorem tinfo : (Try.prog.info? 49).map (fun i => (i.zero, i.size, i.bytes)) = some (some (C 0), 1, 4) := by kernel_rfl

/-- Behind grow: more places, from the first on. -/
def GrowPost (w : World) (p n r : Nat) (vs : List Int) (e : Ending) (w' : World) : Prop :=
  ∃ q N cs, e = .returned (.tuple #[]) ∧ In w' p (some q) N 0 r cs vs ∧ n < N ∧ w.heap.size ≤ q ∧ Within w w' (fun b => b = p)

def most2 (n r : Nat) : Nat := min (max (2 * n) 1) r
theorem grow_any {og : Option Nat} {cs vs : List Int} (h : In w p og n f r cs vs) (hv : vs.length = n) (hr : n < r) :
    Calls Try.prog 75 #[.pointer (some ⟨p, 0, none⟩)] w (GrowPost w p n r vs) := by
  have hf := h.few
  have hm := h.most
  have eN : (if (r : Int) < (if IntKind.i64.wrap (2 * (n : Int)) < 1 then 1 else IntKind.i64.wrap (2 * (n : Int))) then (r : Int) else if IntKind.i64.wrap (2 * (n : Int)) < 1 then 1 else IntKind.i64.wrap (2 * (n : Int))) = (most2 n r : Int) := by
    rw [IntWalk.i64_in _ (by omega)]; unfold most2; split <;> split <;> omega
  have hN : n < most2 n r ∧ most2 n r ≤ r := by unfold most2; omega
  generalize most2 n r = N at eN hN
  obtain ⟨i0, hi0, hz0, hz1, hz2⟩ := info_parts tinfo
  have hmk := fun W : World => run_make (P := Try.prog) W 26 49 i0 _ Try.underlying26 hi0 hz0 .i64 .i64 N N (by omega) (by omega) (by rw [hz2]; omega) (by omega)
  rw [hz1] at hmk
  clear hi0 hz0 hz1 hz2
  have c0 := h.hd.c0
  have c3 := h.hd.c3
  have EN := Lib.hid eN
  have HV := Lib.hid hv
  clear eN hv
  have hd := h.draws 1
  generalize og.map (fun g => (⟨g, 0, none⟩ : Addr)) = a at c0
  go_enter Try.func75, Try.ntmps75
  go_wp2
  go_still_tail 12, (by kernel_rfl)
  rw [EN.out]
  generalize (if IntKind.i64.wrap (2 * (n : Int)) < 1 then (1 : Int) else IntKind.i64.wrap (2 * (n : Int))) = x9
  change wpList _ _ _ _ _ (w.drewN 1)
  have hg1 : w.grownBy (w.drewN 1) none := grown_draws (grown_refl _ _) 1
  generalize w.drewN 1 = w1 at hd hg1 ⊢
  clear c0 c3
  go_wp2_with fail
  rw [show madeCells #[C 0] N = rowOf C (List.replicate N 0) from rowOf_made C 0 N]
  have hq := Bk.made w1 49 (rowOf C (List.replicate N 0))
  have hA := grown_made w1 (.cells (rowOf C (List.replicate N 0)) 49) none
  have hz : w1.heap.size < (w1.alloc (.cells (rowOf C (List.replicate N 0)) 49)).heap.size := by simp
  generalize w1.alloc (.cells (rowOf C (List.replicate N 0)) 49) = w2 at hq hA hz ⊢
  have hwA : Within w1 w2 (fun _ => False) := .of_grown hA (by simp)
  have h2 := hd.kept hwA (by simp) (by simp)
  have hpl := Bk.lt hd.hd
  have hgl : og ≠ some w1.heap.size := fun e => by have := hd.lt e; omega
  have hL := lay_in h2 hq (by rw [List.length_replicate, HV.out]; omega) (by rw [List.length_replicate]; omega) (by omega) hgl
  rw [List.length_replicate] at hL
  refine hL.mono ?_
  clear hL
  rintro e w3 ⟨rfl, hq3, hw3⟩
  have hw13 : Within w1 w3 (fun _ => False) := hwA.then_ (.of_grown (S := fun j => j = w1.heap.size) hw3 (by simp)) (by rintro i rfl; right; omega)
  have h3 := hd.kept hw13 (by simp) (by simp)
  have h3' := h3.hd
  have d0 := h3'.c0
  have d1 := h3'.c1
  have z0 := Bk.free h3' 0
  have z1 := Bk.free h3' 1
  have hne : p ≠ w1.heap.size := by omega
  have hw03 : Within w w3 (fun _ => False) := Within.then_ (.of_grown hg1 (by simp)) hw13 (by simp)
  have hs0 := hg1.size
  generalize w1.heap.size = q at *
  clear hq hA hz hwA h2 hpl hgl hw13 hw3 hg1 hd
  go_wp2
  go_end0
  refine ⟨q, N, layTo vs (List.replicate N 0) vs.length, rfl, ?_, hN.1, hs0, ?_⟩
  · refine ⟨?_, ?_, ?_, by rw [HV.out]; omega, hN.2, hf, ?_, ?_, ?_⟩
    · exact Bk.put (Bk.put h3' 0 _) 1 _
    · intro g' e
      obtain rfl : q = g' := by injection e
      exact (hq3.off (p := ⟨p, 0, none⟩) hne.symm _).off (p := ⟨p, 1, none⟩) hne.symm _
    · rw [layTo_len _ _ _ (Nat.le_refl _) (by rw [List.length_replicate, HV.out]; omega), List.length_replicate]
    · intro i hi
      have : i < N := by have := HV.out; omega
      rw [plc_zero this, layTo_at _ _ _ _ (Nat.le_refl _) hi]
    · intro _ _; omega
    · intro e; cases e
  · exact ((hw03.wide (S' := fun b => b = p) (by simp)).put p 0 _ (.inl rfl)).put p 1 _ (.inl rfl)

theorem put_full {og : Option Nat} {cs vs : List Int} (h : In w p og n f r cs vs) (hv : vs.length = r) (v : Int) :
    Calls Try.prog 55 #[.pointer (some ⟨p, 0, none⟩), C v] w fun e w' => e = .returned (.bool false) ∧ ∃ m, w' = w.drewN m := by
  have c2 := h.hd.c2
  have c3 := h.hd.c3
  rw [hv] at c2
  have hf := h.few
  have HV := Lib.hid hv
  clear hv
  go_enter Try.func55, Try.ntmps55
  go_wp2
  go_quiet (fail)
  go_wp2
  go_ret
  exact ⟨rfl, _, rfl⟩

/-- Behind a Put: one more, last. -/
def PutPost (w : World) (p : Nat) (og : Option Nat) (r : Nat) (vs : List Int) (v : Int) (e : Ending) (w' : World) : Prop :=
  ∃ og', e = .returned (.bool true) ∧ Rg w' p og' r (vs ++ [v]) ∧ Moved w p og w' og'

theorem put_free {g : Nat} {cs vs : List Int} (h : In w p (some g) n f r cs vs) (hv : vs.length < n) (v : Int) :
    Calls Try.prog 55 #[.pointer (some ⟨p, 0, none⟩), C v] w (PutPost w p (some g) r vs v) := by
  have c0 := h.hd.c0
  have c2 := h.hd.c2
  have c3 := h.hd.c3
  simp only [Option.map_some] at c0
  have hf := h.few
  have hm := h.most
  have hfn := h.some_ g rfl
  have hM := h.more hv v
  generalize hc : vs.length = c at hv c2 hM
  have HC := Lib.hid hc
  clear hc
  have hne := h.ne rfl
  have t1 : decide ((r : Int) ≤ (c : Int)) = false := by simp; omega
  have t2 : ((c : Int) == (n : Int)) = false := by simp; omega
  have hpl : plc f c n < n := plc_lt (by omega)
  have b3 : (plc f c n : Int) < n := by omega
  have hl := h.len
  have e1 : w.cell? ⟨g, plc f c n, none⟩ = some (C (nthO 0 cs (plc f c n))) := by rw [(h.row g rfl).cell, rowOf_at (z := 0) C (by rw [hl]; exact hpl)]
  have z1 := (h.row g rfl).free (plc f c n)
  have z2 := Bk.free h.hd 2
  clear hl
  have k1 : ∀ (W : World) (u : Value) (i j : Nat), (W.setCell ⟨g, i, none⟩ u).cell? ⟨p, j, none⟩ = W.cell? ⟨p, j, none⟩ := fun W u i j => cell_off hne
  go_enter Try.func55, Try.ntmps55
  go_wp2
  go_quiet (fail)
  go_wp2
  go_quiet (fail)
  go_wp2
  go_region_held3 (fun w' => w'.cell? ⟨p, 0, none⟩ = some (Value.slice (some ⟨g, 0, none⟩) n n) ∧ w'.cell? ⟨p, 2, none⟩ = some (Value.int .i64 c)) (go_keep)
    (first | (go_at_call 76; refine (place_any (h.draws _).hd (by omega) (by omega) (by omega) c (by omega)).mono ?_; rintro e w' ⟨rfl, m, rfl⟩))
  go_wp2
  go_ret
  refine ⟨some g, rfl, ⟨n, f, _, hM.draws _⟩, .inl rfl, ?_⟩
  exact (((Within.refl w _).draws _).put g _ _ (.inl (.inr rfl))).put p _ _ (.inl (.inl rfl))
end
end Go.Proofs.Ytpinpipjlongaaa.RWord

/- Put, Take and All of layer 3 (ring) at values of one cell (here: uint32), whatever the ring holds. -/
namespace Go.Proofs.Ytpinpipjlongaaa.RWord
set_option maxRecDepth 100000
open Go.ChangeShapes Go.WideShapes Go.ChangeAt Go.RowKit
section
variable {w : World} {p : Nat} {a : Option Addr} {n f r : Nat}

theorem put_grow {og : Option Nat} {cs vs : List Int} (h : In w p og n f r cs vs) (hv : vs.length = n) (hr : n < r) (v : Int) :
    Calls Try.prog 55 #[.pointer (some ⟨p, 0, none⟩), C v] w (PutPost w p og r vs v) := by
  have c0 := h.hd.c0
  have c2 := h.hd.c2
  have c3 := h.hd.c3
  rw [hv] at c2
  have hf := h.few
  have HV := Lib.hid hv
  clear hv
  have t1 : decide ((r : Int) ≤ (n : Int)) = false := by simp; omega
  generalize og.map (fun g => (⟨g, 0, none⟩ : Addr)) = a at c0
  go_enter Try.func55, Try.ntmps55
  go_wp2
  go_quiet (fail)
  go_wp2
  go_quiet (fail)
  go_wp2_with fail
  refine (grow_any (h.draws _) HV.out hr).mono ?_
  rintro e w1 ⟨q, N, cs1, rfl, h1, hN, hq, hw1⟩
  have hq' : w.heap.size ≤ q := hq
  have hw1' : Within w w1 (fun b => b = p) := Within.then_ ((Within.refl w _).draws _) hw1 (fun i e => .inl e)
  clear c0 c2 c3 hw1 hq t1
  have c0 := h1.hd.c0
  have c2 := h1.hd.c2
  simp only [Option.map_some] at c0
  rw [HV.out] at c2
  have hm := h1.most
  have hM := h1.more (by rw [HV.out]; exact hN) v
  rw [HV.out] at hM
  have hne := h1.ne rfl
  have hpl : plc 0 n N < N := plc_lt (by omega)
  have b3 : (plc 0 n N : Int) < N := by omega
  have hl := h1.len
  have e1 : w1.cell? ⟨q, plc 0 n N, none⟩ = some (C (nthO 0 cs1 (plc 0 n N))) := by rw [(h1.row q rfl).cell, rowOf_at (z := 0) C (by rw [hl]; exact hpl)]
  have z1 := (h1.row q rfl).free (plc 0 n N)
  have z2 := Bk.free h1.hd 2
  clear hl
  have k1 : ∀ (W : World) (u : Value) (i j : Nat), (W.setCell ⟨q, i, none⟩ u).cell? ⟨p, j, none⟩ = W.cell? ⟨p, j, none⟩ := fun W u i j => cell_off hne
  go_wp2
  go_region_held3 (fun w' => w'.cell? ⟨p, 0, none⟩ = some (Value.slice (some ⟨q, 0, none⟩) N N) ∧ w'.cell? ⟨p, 2, none⟩ = some (Value.int .i64 n)) (go_keep)
    (first | (go_at_call 76; refine (place_any (w := w1.drew) h1.hd (by omega) (by omega) (by omega) n (by omega)).mono ?_; rintro e w' ⟨rfl, m, rfl⟩))
  go_wp2
  go_ret
  refine ⟨some q, rfl, ⟨N, 0, _, hM.draws _⟩, .inr ⟨q, rfl, hq'⟩, ?_⟩
  have hw2 : Within w w1 (fun b => b = p ∨ some b = og) := hw1'.wide (fun i e _ => .inl e)
  exact ((hw2.draws _).put q _ _ (.inr hq')).put p _ _ (.inl (.inl rfl))

theorem put_ok {og : Option Nat} {vs : List Int} (h : Rg w p og r vs) (hv : vs.length < r) (v : Int) :
    Calls Try.prog 55 #[.pointer (some ⟨p, 0, none⟩), C v] w (PutPost w p og r vs v) := by
  obtain ⟨n, f, cs, h⟩ := h
  by_cases e : vs.length = n
  · exact put_grow h e (by omega) v
  · have hfit := h.fits
    cases og with
    | none => obtain ⟨rfl, rfl⟩ := h.none_ rfl; omega
    | some g => exact put_free h (by omega) v
theorem put_no {og : Option Nat} {vs : List Int} (h : Rg w p og r vs) (hv : vs.length = r) (v : Int) :
    Calls Try.prog 55 #[.pointer (some ⟨p, 0, none⟩), C v] w fun e w' => e = .returned (.bool false) ∧ ∃ m, w' = w.drewN m := by
  obtain ⟨n, f, cs, h⟩ := h; exact put_full h hv v
theorem take_no {og : Option Nat} (h : Rg w p og r []) :
    Calls Try.prog 58 #[.pointer (some ⟨p, 0, none⟩)] w fun e w' => e = .returned (.tuple #[C 0, .bool false]) ∧ w = w' := by
  obtain ⟨n, f, cs, h⟩ := h
  have c2 := h.hd.c2
  simp only [List.length_nil] at c2
  go_enter Try.func58, Try.ntmps58
  go_wp2
  go_ret2
  exact ⟨rfl, rfl⟩

/-- Behind a Take: the first one out. -/
def TakePost (w : World) (p : Nat) (og : Option Nat) (r : Nat) (v : Int) (vs : List Int) (e : Ending) (w' : World) : Prop :=
  e = .returned (.tuple #[C v, .bool true]) ∧ Rg w' p og r vs ∧ Within w w' (fun b => b = p ∨ some b = og)

theorem take_ok {og : Option Nat} {v : Int} {vs : List Int} (h : Rg w p og r (v :: vs)) :
    Calls Try.prog 58 #[.pointer (some ⟨p, 0, none⟩)] w (TakePost w p og r v vs) := by
  obtain ⟨n, f, cs, h⟩ := h
  have hfit := h.fits
  simp only [List.length_cons] at hfit
  cases og with
  | none => obtain ⟨rfl, rfl⟩ := h.none_ rfl; omega
  | some g =>
    have hfn := h.some_ g rfl
    have hm := h.most
    have hf := h.few
    have c0 := h.hd.c0
    have c1 := h.hd.c1
    have c2 := h.hd.c2
    simp only [Option.map_some] at c0
    simp only [List.length_cons] at c2
    have hL := h.less
    have hl := h.len
    have hat := h.at_ 0 (by simp)
    rw [plc_first hfn] at hat
    have hat' : nthO 0 cs f = v := by rw [← hat]; rfl
    have e1 : w.cell? ⟨g, f, none⟩ = some (C v) := by rw [(h.row g rfl).cell, rowOf_at (z := 0) C (by rw [hl]; exact hfn), hat']
    have b1 : (f : Int) < n := by omega
    have hne := h.ne rfl
    have z0 := (h.row g rfl).free f
    have z1 := Bk.free h.hd 1
    have z2 := Bk.free h.hd 2
    have h1 : Hd (w.setCell ⟨g, f, none⟩ (C 0)) p (some ⟨g, 0, none⟩) n f (vs.length + 1) r := Bk.off h.hd (p := ⟨g, f, none⟩) hne (C 0)
    clear hat hat' hl
    generalize vs.length = c at c2 hL h1 hfit
    have t2 : ((c + 1 : Nat) : Int) = (c : Int) + 1 := by omega
    rw [t2] at c2
    clear t2
    have k1 : ∀ (W : World) (u : Value) (i j : Nat), (W.setCell ⟨g, i, none⟩ u).cell? ⟨p, j, none⟩ = W.cell? ⟨p, j, none⟩ := fun W u i j => cell_off hne
    have t3 : ((c : Int) + 1 == 0) = false := by simp; omega
    go_enter Try.func58, Try.ntmps58
    go_wp2
    go_quiet (fail)
    go_wp2
    go_region_held3 (fun w' => w'.cell? ⟨p, 0, none⟩ = some (Value.slice (some ⟨g, 0, none⟩) n n) ∧ w'.cell? ⟨p, 1, none⟩ = some (Value.int .i64 f)) (go_keep) ((fail))
    go_wp2_with fail
    have h2 : Hd ((w.drewN (nq + 1)).setCell ⟨g, f, none⟩ (C 0)) p (some ⟨g, 0, none⟩) n f (c + 1) r := h1
    have hP := place_any h2 (by omega) (by omega) (by omega) 1 (by omega)
    refine hP.mono ?_
    clear hP
    rintro e w' ⟨rfl, m, rfl⟩
    go_wp2
    go_ret2
    refine ⟨rfl, ⟨n, _, _, hL.same rfl⟩, ?_⟩
    exact (((((Within.refl w _).draws _).put g _ _ (.inl (.inr rfl))).draws _).put p _ _ (.inl (.inl rfl))).put p _ _ (.inl (.inl rfl))

/-- What is told of all: a row of its own. -/
def AllPost (w : World) (p : Nat) (og : Option Nat) (r : Nat) (vs : List Int) (e : Ending) (w' : World) : Prop :=
  ∃ q, e = .returned (.slice (some ⟨q, 0, none⟩) vs.length vs.length) ∧ Bk w' q 49 (rowOf C vs) ∧ Rg w' p og r vs ∧ w.heap.size ≤ q ∧ w.grownBy w' none
end
end Go.Proofs.Ytpinpipjlongaaa.RWord

/- A map from words to bools that the call itself has made: which words are in it, and how many; what a look-up, len, a store and delete do. Over any program that has such a map. -/
namespace Go.Proofs.Ytpinpipjlongaaa
set_option maxRecDepth 100000
open Go.ChangeShapes Go.WideShapes Go.ChangeAt Go.RowKit Go.Maps

theorem keyed32 : Keyed Try.prog 49 := int_keyed Try.underlying49
theorem wf32 {x : Int} (h0 : 0 ≤ x) (h1 : x < 4294967296) : (Lit.int .u32 x).wf = true := by
  simp [Lit.wf, IntKind.min, IntKind.max, IntKind.bits, IntKind.signed]; omega
theorem key32 {x : Int} (h0 : 0 ≤ x) (h1 : x < 4294967296) : keyOf Try.prog 49 (.int .u32 x) = some (.int .u32 x) := keyOf_int_mk Try.underlying49 (wf32 h0 h1)
theorem zeroBool (w : World) : (zeroValue 4).run Try.prog w = .ok (.bool false) w := by kernel_rfl
theorem isKey32 (x : Int) : WideAt.IsKeyLit (.int .u32 x) := by trivial
theorem lit32_ne {x y : Int} (h : y ≠ x) : (Lit.int .u32 y) ≠ .int .u32 x := fun e => h (by injection e)

/-- What one word is, is another. -/
def turn (os : Int → Bool) (x : Int) (v : Bool) : Int → Bool := fun y => if y = x then v else os y
theorem turn_same (os : Int → Bool) (x : Int) (v : Bool) : turn os x v x = v := by simp [turn]
theorem turn_other {os : Int → Bool} {x y : Int} {v : Bool} (h : y ≠ x) : turn os x v y = os y := by simp [turn, h]

/-- Block b is a map; os says which words are in it, each with true; they are c. -/
def Outs (w : World) (b : Nat) (os : Int → Bool) (c : Nat) : Prop :=
  ∃ D : DataW Unit, w.ownsMap Try.prog 49 (plainElem Try.prog 4) b c D ∧ size D = c ∧
    ∀ x, 0 ≤ x → x < 4294967296 → Maps.has D (.int .u32 x) = os x ∧ D.atKey (.int .u32 x) (.lit (.bool false)) = .lit (.bool (os x))

section
variable {w w' : World} {b c : Nat} {os : Int → Bool}
theorem ownsMap_tight {D : DataW Unit} {n : Nat} {k : TypeId} {R : Value → Option (DataW Unit × List MemPlace)} (h : w.ownsMap Try.prog k R b n D) : w.ownsMap Try.prog k R b (size D) D := by
  obtain ⟨es, clock, hb, F, hs, rfl⟩ := h
  exact ⟨es, clock, hb, F, by simp [Maps.size, length_sorted], rfl⟩
theorem Outs.lt (h : Outs w b os c) : b < w.heap.size := by obtain ⟨D, h, _⟩ := h; exact h.lt
theorem Outs.not_bk {g : Nat} {t : TypeId} {cs : Array Value} (h : Outs w b os c) (k : Bk w g t cs) : b ≠ g := by
  obtain ⟨D, ⟨es, clock, hb, _⟩, _⟩ := h
  intro e; subst e; unfold Bk at k; rw [hb] at k; cases k
theorem Outs.within {S : Nat → Prop} (h : Outs w b os c) (k : Within w w' S) (hn : ¬ S b) : Outs w' b os c := by
  have hl := h.lt
  obtain ⟨D, ⟨es, clock, hb, r⟩, r'⟩ := h
  exact ⟨D, ⟨es, clock, (k.block b hl hn).trans hb, r⟩, r'⟩
theorem Outs.drewN (h : Outs w b os c) (n : Nat) : Outs (w.drewN n) b os c := h
theorem Outs.made (w : World) : Outs (w.alloc (.map #[] 0)) w.heap.size (fun _ => false) 0 :=
  ⟨.map [], World.ownsMap_made w _ _ _, rfl, fun _ _ _ => ⟨rfl, rfl⟩⟩
theorem Outs.look (h : Outs w b os c) {x : Int} (h0 : 0 ≤ x) (h1 : x < 4294967296) : (Instr.lookup 98 (.map (some b)) (.int .u32 x) false).run Try.prog w = .ok (.bool (os x)) w := by
  obtain ⟨D, h, _, hk⟩ := h
  obtain ⟨v, ps, hrun, hv⟩ := h.lookup keyed32 Try.underlying98 (zeroBool w) (plainElem_bool Try.underlying4 false) (key32 h0 h1)
  rw [(hk x h0 h1).2] at hv
  rw [hrun]
  unfold plainElem at hv
  rw [Try.underlying4] at hv
  cases v <;> simp at hv
  rw [hv.1]
theorem Outs.len (h : Outs w b os c) (ty : TypeId) : (Builtin.len_ #[98] ty #[.map (some b)]).run Try.prog w = .ok (.int .i64 c) w := by
  obtain ⟨D, h, hs, _⟩ := h
  rw [← hs]
  exact h.len Try.underlying98 ty
theorem turn_has {D : DataW Unit} {os : Int → Bool} (hD : IsMap D) (hk : ∀ x, 0 ≤ x → x < 4294967296 → Maps.has D (.int .u32 x) = os x ∧ D.atKey (.int .u32 x) (.lit (.bool false)) = .lit (.bool (os x))) (k : Int) :
    ∀ x, 0 ≤ x → x < 4294967296 → Maps.has (D.put (.int .u32 k) (.lit (.bool true))) (.int .u32 x) = turn os k true x ∧ (D.put (.int .u32 k) (.lit (.bool true))).atKey (.int .u32 x) (.lit (.bool false)) = .lit (.bool (turn os k true x)) := by
  intro x h0 h1
  by_cases e : x = k
  · subst e; rw [turn_same]; exact ⟨has_put_same hD (isKey32 _) _, atKey_put_same hD (isKey32 _) _ _⟩
  · rw [turn_other e, has_put_other (lit32_ne e), atKey_put_other (lit32_ne e)]; exact hk x h0 h1
theorem turn_hasnt {D : DataW Unit} {os : Int → Bool} (hk : ∀ x, 0 ≤ x → x < 4294967296 → Maps.has D (.int .u32 x) = os x ∧ D.atKey (.int .u32 x) (.lit (.bool false)) = .lit (.bool (os x))) (k : Int) :
    ∀ x, 0 ≤ x → x < 4294967296 → Maps.has (D.del (.int .u32 k)) (.int .u32 x) = turn os k false x ∧ (D.del (.int .u32 k)).atKey (.int .u32 x) (.lit (.bool false)) = .lit (.bool (turn os k false x)) := by
  intro x h0 h1
  by_cases e : x = k
  · subst e; rw [turn_same]; exact ⟨has_del_same, atKey_del_same _⟩
  · rw [turn_other e, has_del_other (lit32_ne e), atKey_del_other (lit32_ne e)]; exact hk x h0 h1

/-- One more word. -/
theorem Outs.add (h : Outs w b os c) (hc : c < 1000000) {k : Int} (h0 : 0 ≤ k) (h1 : k < 4294967296) (hk : os k = false) :
    ∃ w', (Instr.mapUpdate 98 (.map (some b)) (.int .u32 k) (.bool true)).run Try.prog w = .ok () w' ∧ Outs w' b (turn os k true) (c + 1) ∧ Only w w' b := by
  obtain ⟨D, h, hs, hh⟩ := h
  obtain ⟨w', hrun, ho, hg⟩ := h.update keyed32 Try.underlying98 (by unfold maxLen; omega) (key32 h0 h1) (plainElem_bool (H := Unit) Try.underlying4 true)
  refine ⟨w', hrun, ⟨_, ho, ?_, turn_has h.isMap hh k⟩, hg⟩
  rw [size_put (h.tidy keyed32), (hh k h0 h1).1, hk, hs]; simp
end

section
variable {ops : Array Oper} {rest : List Oper} {o : Oper} {a : Act} {Q : Exit → Act → World → Prop} {w : World} {b c : Nat} {os : Int → Bool}
/-- One word fewer: delete, at the operation. -/
theorem wpOutsDrop (hg : o.guard = none) (m x : Operand) (hop : o.op = Op.call { callee := Callee.builtin Builtin.delete, args := #[m, x], argTypes := #[98, 49] })
    (hm : a.eval m = .map (some b)) (h : Outs w b os c) {k : Int} (h0 : 0 ≤ k) (h1 : k < 4294967296) (hx : a.eval x = .int .u32 k) (hk : os k = true)
    (hK : ∀ w', Outs w' b (turn os k false) (c - 1) → Only w w' b → wpList Try.prog ops Q rest (a.put o.dst (.tuple #[])) w') : wpList Try.prog ops Q (o :: rest) a w := by
  obtain ⟨D, h, hs, hh⟩ := h
  refine wpList_delete_own w hg m x 98 49 hop 4 keyed32 Try.underlying98 _ b c D hm h _ _ hx (key32 h0 h1) fun w' h' ht => ?_
  have hsz := size_del (k := .int .u32 k) (h.tidy keyed32)
  rw [(hh k h0 h1).1, hk, hs] at hsz
  have hsz' : size (D.del (.int .u32 k)) = c - 1 := by simp at hsz; omega
  refine hK w' ⟨_, ?_, hsz', turn_hasnt hh k⟩ ht.grown
  rw [← hsz']
  exact ownsMap_tight h'
end
end Go.Proofs.Ytpinpipjlongaaa
