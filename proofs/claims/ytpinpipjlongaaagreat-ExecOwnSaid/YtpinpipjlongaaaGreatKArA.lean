/- ArA, PoolRef, Opn, RefP, AsmS, Same, ArB, ArR, PoolRefB, Copy, PoolRefC. -/
import Derived.Test.YtpinpipjlongaaaGreatKCoreM
import Derived.Test.YtpinpipjlongaaaGreatKMem
import Derived.Test.YtpinpipjlongaaaGreatKHold
import Derived.ArgAppend
import Derived.ProofKit
import Derived.OpenShut
import Derived.Deep.Fields
import Derived.Lib.SmallJoins
import Derived.Deep.Slices
import Derived.ChangeSame
import Derived.Deep.RegionHeld3
import Derived.Deep.Cut
import Derived.Deep.CutBlock
import Derived.Deep.QuietTactic
import Derived.BigQuiet
import Derived.Laws.CopyOwn
import Derived.Deep.DeepCutAuto
import Derived.Deep.Onto
import Derived.Laws.Cover3
import Derived.RegionTactic
/- What each function of layer 9 (mem) but New returns, and what a memory is then: one contract a function, for all sizes that there may be, every area, word and address. -/
namespace Go.Proofs.YtpinpipjlongaaaGreat
set_option maxRecDepth 100000
open Go.ChangeShapes Go.WideShapes Go.ChangeAt Go.RowKit

/-- Ints as cells. -/
def intsC (zs : List Int) : Array Value := (zs.map (Value.int .i64)).toArray
theorem intsC_at (zs : List Int) (i : Nat) (h : i < zs.length) : (intsC zs)[i]? = some (.int .i64 (nth zs i)) := by simp [intsC, h, nth]
theorem nth_take (zs : List Int) {k i : Nat} (h : i < k) : nth (zs.take k) i = nth zs i := by
  unfold nth; simp only [List.getD_eq_getElem?_getD, List.getElem?_take]; rw [if_pos h]
theorem right_take {zs : List Int} (h : RightZ zs) (k : Nat) : RightZ (zs.take k) := by
  refine ⟨by have := h.1; simp; omega, fun i hi => ?_⟩
  simp at hi
  rw [nth_take zs (by omega)]
  exact h.2 i (by omega)
theorem pre_take (zs : List Int) {k : Nat} : ∀ j, j ≤ k → pre (zs.take k) j = pre zs j
  | 0, _ => rfl
  | j + 1, h => by rw [pre_succ, pre_succ, pre_take zs j (by omega)]; unfold sz; rw [nth_take zs (by omega)]
theorem tot_take {zs : List Int} {k : Nat} (h : k ≤ zs.length) : tot (zs.take k) = pre zs k := by
  unfold tot; rw [List.length_take, Nat.min_eq_left h, pre_take zs k (Nat.le_refl _)]

/-- A slice whose cells are in a block that is known: the first k of them. -/
theorem given_bk {w : World} {s k : Nat} {zs : List Int} (h : Bk w s 3 (intsC zs)) (hk : k ≤ zs.length) : Given .i64 w (some ⟨s, 0, none⟩) (zs.take k) := by
  intro _
  refine ⟨s, 0, rfl, h.lt, fun i hi => ?_⟩
  simp at hi
  rw [Nat.zero_add, h.cell, intsC_at zs i (by omega), nth_take zs (by omega)]
theorem Given.here {k : IntKind} {w : World} {a : Option Addr} {xs : List Int} (h : Given k w a xs) {i : Nat} (hi : i < xs.length) : ∃ b off, a = some ⟨b, off, none⟩ ∧ w.cell? ⟨b, off + i, none⟩ = some (.int k (nth xs i)) := by
  obtain ⟨b, off, e, _, hc⟩ := h (by omega)
  exact ⟨b, off, e, hc i hi⟩
theorem Given.grown {k : IntKind} {w w' : World} {a : Option Addr} {xs : List Int} (h : Given k w a xs) (hb : w.grownBy w' none) : Given k w' a xs := by
  intro h0
  obtain ⟨b, off, e, hlt, hc⟩ := h h0
  exact ⟨b, off, e, Nat.lt_of_lt_of_le hlt hb.size, fun i hi => ((below_of_grown hb).cell (p := ⟨b, off + i, none⟩) hlt).trans (hc i hi)⟩

set_option maxHeartbeats 400000 in
theorem cTogether {w : World} {a : Option Addr} {zs : List Int} (h : Given .i64 w a zs) (hz : RightZ zs) (cap : Nat) :
    Calls Tryz.prog 45 #[.slice a zs.length cap] w fun e w' => e = .returned (.int .i64 (tot zs)) ∧ w = w' := by
  have h8 := hz.1
  go_enter Tryz.func45, Tryz.ntmps45
  go_wp2
  go_loopw [3, 8] (fun s t wr => ∃ k : Nat, k ≤ zs.length ∧ t = .int .i64 k ∧ s = .int .i64 (pre zs k) ∧ w = wr) (fun _ t _ => zs.length - (intOf t).toNat)
  case atStart => exact ⟨0, Nat.zero_le _, rfl, rfl, by trivial⟩
  case round =>
    obtain ⟨k, hk, rfl, rfl, rfl⟩ := hrel
    by_cases hlt : k < zs.length
    · obtain ⟨b, off, rfl, hc⟩ := h.here hlt
      rw [sz_eq hz hlt] at hc
      have h1 := sz_le hz hlt
      have h2 := pre_le hz k hk
      have hs := pre_succ zs k
      go_wp2
      go_roundw
      case rel => exact ⟨k + 1, by omega, by go_num, by rw [hs]; go_num, by trivial⟩
      case measure => simp [intOf]; omega
    · obtain rfl : k = zs.length := by omega
      go_wp2
      go_ret
      exact ⟨rfl, rfl⟩

theorem mRight {w : World} {a : Option Addr} {zs : List Int} (h : Given .i64 w a zs) (hz : RightZ zs) (cap : Nat) :
    Calls Tryz.prog 44 #[.slice a zs.length cap] w fun e w' => e = .returned (.bool true) ∧ w = w' := by
  have h8 := hz.1
  go_enter Tryz.func44, Tryz.ntmps44
  go_wp2
  go_loopw [10] (fun t wr => ∃ k : Nat, k ≤ zs.length ∧ t = .int .i64 k ∧ w = wr) (fun t _ => zs.length - (intOf t).toNat)
  case atStart => exact ⟨0, Nat.zero_le _, rfl, by trivial⟩
  case round =>
    obtain ⟨k, hk, rfl, rfl⟩ := hrel
    by_cases hlt : k < zs.length
    · obtain ⟨b, off, rfl, hc⟩ := h.here hlt
      obtain ⟨h1, h2⟩ := hz.2 k hlt
      go_wp2
      go_roundw
      case rel => exact ⟨k + 1, by omega, by go_num, by trivial⟩
      case measure => simp [intOf]; omega
    · obtain rfl : k = zs.length := by omega
      go_wp2
      go_ret
      exact ⟨rfl, rfl⟩

/-- A memory: the struct is block p, its cells block q, their words block g, its sizes block s. -/
structure Mm (w : World) (p q g s : Nat) (zs xs : List Int) : Prop where
  ptr : Bk w p 118 #[.pointer (some ⟨q, 0, none⟩), .slice (some ⟨s, 0, none⟩) zs.length zs.length]
  cel : Cel w q g xs
  row : Bk w s 3 (intsC zs)
  right : RightZ zs
  len : xs.length = tot zs
section
variable {w w' : World} {p q g s : Nat} {zs xs ys : List Int}
theorem Mm.grown (h : Mm w p q g s zs xs) (hg : w.grownBy w' none) : Mm w' p q g s zs xs :=
  ⟨h.ptr.grown hg (by simp), h.cel.kept hg (by simp) (by simp), h.row.grown hg (by simp), h.right, h.len⟩
theorem Mm.alloc (h : Mm w p q g s zs xs) (o : Obj) : Mm (w.alloc o) p q g s zs xs := h.grown (grown_made _ _ none)
theorem Mm.drewN (h : Mm w p q g s zs xs) (n : Nat) : Mm (w.drewN n) p q g s zs xs := h.grown (grown_draws (grown_refl w none) n)
/-- Behind an access of its cells. -/
theorem Mm.only (h : Mm w p q g s zs xs) (hc : Cel w' q g ys) (ho : Only w w' g) (hl : ys.length = xs.length) : Mm w' p q g s zs ys :=
  ⟨h.ptr.grown ho (fun e => by injection e with e; exact h.ptr.unlike h.cel.row (by decide) e), hc, h.row.grown ho (fun e => by injection e with e; exact h.row.unlike h.cel.row (by decide) e), h.right, hl.trans h.len⟩
theorem Mm.off {b : Nat} (h : Mm w p q g s zs xs) (ho : Only w w' b) (h1 : b ≠ p) (h2 : b ≠ q) (h3 : b ≠ g) (h4 : b ≠ s) : Mm w' p q g s zs xs :=
  ⟨h.ptr.grown ho (fun e => by injection e with e; exact h1 e.symm), h.cel.kept ho (fun e => by injection e with e; exact h2 e.symm) (fun e => by injection e with e; exact h3 e.symm), h.row.grown ho (fun e => by injection e with e; exact h4 e.symm), h.right, h.len⟩
theorem Mm.c0 (h : Mm w p q g s zs xs) : w.cell? ⟨p, 0, none⟩ = some (.pointer (some ⟨q, 0, none⟩)) := by rw [h.ptr.cell]; rfl
theorem Mm.c1 (h : Mm w p q g s zs xs) : w.cell? ⟨p, 1, none⟩ = some (.slice (some ⟨s, 0, none⟩) zs.length zs.length) := by rw [h.ptr.cell]; rfl
theorem Mm.at_ (h : Mm w p q g s zs xs) {i : Nat} (hi : i < zs.length) : w.cell? ⟨s, i, none⟩ = some (.int .i64 (sz zs i)) := by rw [h.row.cell, intsC_at zs i hi, sz_eq h.right hi]

theorem cAddress (h : Mm w p q g s zs xs) (a : Nat) (ha : a < zs.length) (v : Int) (h0 : 0 ≤ v) (h1 : v < 4294967296) (hv : v % 4096 < sz zs a) :
    Calls Tryz.prog 54 #[.pointer (some ⟨p, 0, none⟩), .int .i64 a, .int .u32 v] w fun e w' => e = .returned (.tuple #[.int .i64 ((pre zs a + (v % 4096).toNat : Nat) : Int), .bool true]) ∧ w = w' := by
  have c1 := h.c1
  have c2 := h.at_ ha
  have h8 := h.right.1
  have hT := cTogether (given_bk h.row (k := a) (by omega)) (right_take h.right a) zs.length
  rw [tot_take (by omega), List.length_take, Nat.min_eq_left (by omega)] at hT
  have hp := pre_le h.right a (by omega)
  obtain ⟨pl, hpl, hpl2⟩ : ∃ pl : Nat, v % 4096 = pl ∧ pl < 4096 := ⟨(v % 4096).toNat, by omega, by omega⟩
  rw [hpl] at hv ⊢
  have HT := Lib.hid hT
  clear hT
  go_enter Tryz.func54, Tryz.ntmps54
  go_wp2_with fail
  refine (hIndex v h0 h1 w).mono ?_
  rw [hpl]
  rintro e w' ⟨rfl, rfl⟩
  go_wp2_with fail
  refine HT.out.mono ?_
  rintro e w' ⟨rfl, rfl⟩
  go_wp2
  go_ret2
  exact ⟨by simp, rfl⟩

theorem cAddressNo (h : Mm w p q g s zs xs) (a : Int) (v : Int) (h0 : 0 ≤ v) (h1 : v < 4294967296) (hv : a < 0 ∨ (zs.length : Int) ≤ a ∨ (sz zs a.toNat : Int) ≤ v % 4096) :
    Calls Tryz.prog 54 #[.pointer (some ⟨p, 0, none⟩), .int .i64 a, .int .u32 v] w fun e w' => e = .returned (.tuple #[.int .i64 0, .bool false]) ∧ w = w' := by
  have c1 := h.c1
  have h8 := h.right.1
  rcases (show a < 0 ∨ (0 ≤ a ∧ (zs.length : Int) ≤ a) ∨ (0 ≤ a ∧ a < zs.length) by omega) with hb | hb | hb
  · go_enter Tryz.func54, Tryz.ntmps54
    go_wp2
    go_ret2
    exact ⟨rfl, rfl⟩
  · go_enter Tryz.func54, Tryz.ntmps54
    go_wp2
    go_ret2
    exact ⟨rfl, rfl⟩
  obtain ⟨n, rfl⟩ := Int.eq_ofNat_of_zero_le hb.1
  have c2 := h.at_ (i := n) (by omega)
  have hv2 : (sz zs n : Int) ≤ v % 4096 := by
    rw [Int.toNat_natCast] at hv; omega
  obtain ⟨pl, hpl, hpl2⟩ : ∃ pl : Nat, v % 4096 = pl ∧ pl < 4096 := ⟨(v % 4096).toNat, by omega, by omega⟩
  rw [hpl] at hv2
  have hn : n < zs.length := by omega
  clear hv
  go_enter Tryz.func54, Tryz.ntmps54
  go_wp2_with fail
  refine (hIndex v h0 h1 w).mono ?_
  rw [hpl]
  rintro e w' ⟨rfl, rfl⟩
  go_wp2
  go_ret2
  exact ⟨rfl, rfl⟩

end
end Go.Proofs.YtpinpipjlongaaaGreat

/- The document's own pool in memory, and what its calls do: first part. -/
namespace Go.Proofs.YtpinpipjlongaaaGreat
set_option maxRecDepth 100000
open Go.ChangeShapes Go.WideShapes Go.ChangeAt Go.RowKit

/-- The value v is a slice of just the ints xs, somewhere in a row (or nil). -/
def Fs (w : World) (v : Value) (xs : List Int) : Prop :=
  (v = .slice none 0 0 ∧ xs = []) ∨ ∃ g off cap cs, v = .slice (some ⟨g, off, none⟩) xs.length cap ∧ xs.length ≤ cap ∧ cap ≤ maxLen ∧ Bk w g 3 cs ∧ off + cap ≤ cs.size ∧ ∀ i, i < xs.length → cs[off + i]? = some (.int .i64 (nth xs i))
section
variable {w w' : World} {v : Value} {xs : List Int}
theorem Fs.of_lst (h : Lst .i64 3 w v xs) : Fs w v xs := by
  rcases h.2 with ⟨rfl, h0⟩ | ⟨g, cap, cur, rfl, hb, hg, hnc, hcm, hcs, htake⟩
  · exact .inl ⟨rfl, List.eq_nil_of_length_eq_zero h0⟩
  · refine .inr ⟨g, 0, cap, cur, rfl, hnc, hcm, hg, by omega, fun i hi => ?_⟩
    have h1 := World.ownsRow.cellAt ⟨h.1, .inr ⟨g, cap, cur, rfl, hb, hg, hnc, hcm, hcs, htake⟩⟩ i (by omega)
    rw [List.getElem?_map, nth_get hi] at h1
    rw [Nat.zero_add, ← Bk.cell (cs := cur) (t := 3) hg i, h1]; rfl
theorem Fs.lt (h : Fs w v xs) {g : Nat} (e : v.ownBlock = some g) : g < w.heap.size := by
  rcases h with ⟨rfl, _⟩ | ⟨g', off, cap, cs, rfl, _, _, hb, _⟩
  · cases e
  · simp only [Value.ownBlock, Option.some.injEq] at e; subst e; exact hb.lt
theorem Fs.bk (h : Fs w v xs) {g : Nat} (e : v.ownBlock = some g) : ∃ cs, Bk w g 3 cs := by
  rcases h with ⟨rfl, _⟩ | ⟨g', off, cap, cs, rfl, _, _, hb, _⟩
  · cases e
  · simp only [Value.ownBlock, Option.some.injEq] at e; subst e; exact ⟨cs, hb⟩
theorem Fs.within {S : Nat → Prop} (h : Fs w v xs) (k : Within w w' S) (hn : ∀ g, v.ownBlock = some g → ¬ S g) : Fs w' v xs := by
  rcases h with ⟨rfl, rfl⟩ | ⟨g, off, cap, cs, rfl, h1, h2, hb, h3⟩
  · exact .inl ⟨rfl, rfl⟩
  · exact .inr ⟨g, off, cap, cs, rfl, h1, h2, hb.within k (hn g rfl), h3⟩
theorem Fs.oneCell (h : Fs w v xs) : v.oneCell' = true := by
  rcases h with ⟨rfl, _⟩ | ⟨g, off, cap, cs, rfl, _⟩ <;> rfl
/-- The first one cut off. -/
theorem Fs.cut {x : Int} (h : Fs w v (x :: xs)) : ∃ g off cap, v = .slice (some ⟨g, off, none⟩) (xs.length + 1) cap ∧ xs.length + 1 ≤ cap ∧ cap ≤ maxLen ∧ w.cell? ⟨g, off, none⟩ = some (.int .i64 x) ∧
    (cap = 1 → Fs w (.slice (some ⟨g, off, none⟩) xs.length (cap - 1)) xs) ∧ (cap ≠ 1 → Fs w (.slice (some ⟨g, off + 1, none⟩) xs.length (cap - 1)) xs) := by
  rcases h with ⟨_, h⟩ | ⟨g, off, cap, cs, rfl, h1, h2, hb, h3, h4⟩
  · cases h
  · simp only [List.length_cons] at h1 h4
    refine ⟨g, off, cap, rfl, h1, h2, ?_, fun e => ?_, fun e => ?_⟩
    · rw [hb.cell]; have := h4 0 (by omega); rw [Nat.add_zero] at this; exact this
    · exact .inr ⟨g, off, cap - 1, cs, rfl, by omega, by omega, hb, by omega, fun i hi => by omega⟩
    · refine .inr ⟨g, off + 1, cap - 1, cs, rfl, by omega, by omega, hb, by omega, fun i hi => ?_⟩
      rw [show off + 1 + i = off + (i + 1) by omega, h4 (i + 1) (by omega)]
      rfl
/-- One more, where there is room. -/
theorem Fs.more {g off cap : Nat} {x : Int} (h : Fs w (.slice (some ⟨g, off, none⟩) xs.length cap) xs) (hr : xs.length + 1 ≤ cap) : Fs (w.setCell ⟨g, off + xs.length, none⟩ (.int .i64 x)) (.slice (some ⟨g, off, none⟩) (xs.length + 1) cap) (xs ++ [x]) := by
  rcases h with ⟨h, _⟩ | ⟨g', off', cap', cs, e, h1, h2, hb, h3, h4⟩
  · cases h
  · simp only [Value.slice.injEq, Option.some.injEq, Addr.mk.injEq, and_true, true_and] at e
    obtain ⟨⟨rfl, rfl⟩, rfl⟩ := e
    refine .inr ⟨g, off, cap, _, by simp, by simp; omega, h2, hb.put _ _, by simpa using h3, fun i hi => ?_⟩
    simp only [List.length_append, List.length_cons, List.length_nil] at hi
    rw [Array.getElem?_setIfInBounds]
    by_cases e : i = xs.length
    · subst e
      rw [if_pos rfl, if_pos (by omega)]
      simp [nth]
    · rw [if_neg (by omega), h4 i (by omega)]
      simp [nth, List.getD_eq_getElem?_getD, List.getElem?_append, show i < xs.length by omega]
end

/-- Where the document's pool lies: the values of its three lists, and of each thread's list. -/
structure RM where
  fv : Value
  gv : Value
  ov : Value
  vs : Nat → Value
/-- The blocks that calls may change. -/
def RM.Has (R : RM) (n i : Nat) : Prop := R.fv.ownBlock = some i ∨ R.gv.ownBlock = some i ∨ R.ov.ownBlock = some i ∨ ∃ t, t < n ∧ (R.vs t).ownBlock = some i
/-- Nodes as the document numbers them: from 1 on. -/
def ones (l : List Nat) : List Int := l.map fun (q : Nat) => ((q : Nat) : Int) + 1
/-- The document's pool. -/
structure Rf (w : World) (x n each : Nat) (R : RM) (free : Nat → List Nat) (gen out : List Int) : Prop where
  ptr : Bk w x 129 #[.int .i64 each, R.fv, R.gv, R.ov]
  row : Vls 25 w R.fv ((List.range n).map R.vs)
  gens : Lst .i64 3 w R.gv gen
  outs : Lst .i64 3 w R.ov out
  frees : ∀ t, t < n → Fs w (R.vs t) (ones (free t))
  go : ∀ g, R.gv.ownBlock = some g → R.ov.ownBlock ≠ some g
  vg : ∀ t g, t < n → (R.vs t).ownBlock = some g → R.gv.ownBlock ≠ some g
  vo : ∀ t g, t < n → (R.vs t).ownBlock = some g → R.ov.ownBlock ≠ some g
  vv : ∀ s t g, s < n → t < n → s ≠ t → (R.vs s).ownBlock = some g → (R.vs t).ownBlock ≠ some g

section
variable {w w' : World} {x n each : Nat} {R : RM} {free : Nat → List Nat} {gen out : List Int}
theorem Rf.lt (h : Rf w x n each R free gen out) {i : Nat} (k : R.Has n i) : i < w.heap.size := by
  rcases k with e | e | e | ⟨t, ht, e⟩
  · exact h.row.lt e
  · exact h.gens.lt e
  · exact h.outs.lt e
  · exact (h.frees t ht).lt e
theorem Rf.kept {S : Nat → Prop} (h : Rf w x n each R free gen out) (k : Within w w' S) (h1 : ¬ S x) (h2 : ∀ i, R.Has n i → ¬ S i) : Rf w' x n each R free gen out :=
  ⟨h.ptr.within k h1, h.row.within k (fun g e => h2 g (.inl e)), h.gens.within k (fun g e => h2 g (.inr (.inl e))), h.outs.within k (fun g e => h2 g (.inr (.inr (.inl e)))),
    fun t ht => (h.frees t ht).within k (fun g e => h2 g (.inr (.inr (.inr ⟨t, ht, e⟩)))), h.go, h.vg, h.vo, h.vv⟩
theorem Rf.grown (h : Rf w x n each R free gen out) (k : w.grownBy w' none) : Rf w' x n each R free gen out := h.kept (S := fun _ => False) (.of_grown k (by simp)) (by simp) (by simp)
theorem Rf.drewN (h : Rf w x n each R free gen out) (m : Nat) : Rf (w.drewN m) x n each R free gen out := h.kept (S := fun _ => False) ((Within.refl _ _).draws m) (by simp) (by simp)
theorem Rf.c0 (h : Rf w x n each R free gen out) : w.cell? ⟨x, 0, none⟩ = some (.int .i64 each) := by rw [h.ptr.cell]; rfl
theorem Rf.c1 (h : Rf w x n each R free gen out) : w.cell? ⟨x, 1, none⟩ = some R.fv := by rw [h.ptr.cell]; rfl
theorem Rf.c2 (h : Rf w x n each R free gen out) : w.cell? ⟨x, 2, none⟩ = some R.gv := by rw [h.ptr.cell]; rfl
theorem Rf.c3 (h : Rf w x n each R free gen out) : w.cell? ⟨x, 3, none⟩ = some R.ov := by rw [h.ptr.cell]; rfl
/-- Its list of lists. -/
theorem Rf.fvIs (h : Rf w x n each R free gen out) (hn : 1 ≤ n) : ∃ g cap, R.fv = .slice (some ⟨g, 0, none⟩) n cap ∧ n ≤ cap ∧ cap ≤ maxLen ∧ (∀ i, w.frozen? ⟨g, i, none⟩ = false) ∧ ∀ t, t < n → w.cell? ⟨g, t, none⟩ = some (R.vs t) := by
  obtain ⟨a, cap, e, h1, h2, h3⟩ := h.row.is
  simp only [List.length_map, List.length_range] at e h1 h3
  obtain ⟨g, rfl, _, hf, hc⟩ := h3 hn
  refine ⟨g, cap, e, h1, h2, hf, fun t ht => ?_⟩
  rcases hc t with hc | hc
  · rw [hc]; simp [ht]
  · omega
theorem Rf.gvIs (h : Rf w x n each R free gen out) : ∃ a cap, R.gv = .slice a gen.length cap ∧ gen.length ≤ cap ∧ cap ≤ maxLen ∧ (0 < gen.length → ∃ g, a = some ⟨g, 0, none⟩ ∧ R.gv.ownBlock = some g ∧ (∀ i, w.frozen? ⟨g, i, none⟩ = false) ∧ ∀ i, i < gen.length → w.cell? ⟨g, i, none⟩ = some (.int .i64 (nth gen i))) := h.gens.is
theorem Rf.ovIs (h : Rf w x n each R free gen out) : ∃ a cap, R.ov = .slice a out.length cap ∧ out.length ≤ cap ∧ cap ≤ maxLen ∧ (0 < out.length → ∃ g, a = some ⟨g, 0, none⟩ ∧ R.ov.ownBlock = some g ∧ (∀ i, w.frozen? ⟨g, i, none⟩ = false) ∧ ∀ i, i < out.length → w.cell? ⟨g, i, none⟩ = some (.int .i64 (nth out i))) := h.outs.is

/-- The handle of a node. -/
theorem rfHandle (h : Rf w x n each R free gen out) (hl : gen.length ≤ 512) {q : Nat} (hq : q < gen.length) (hg : 0 ≤ nth gen q ∧ nth gen q < 262144) :
    Calls Tryz.prog 58 #[.pointer (some ⟨x, 0, none⟩), .int .i64 ((q : Int) + 1)] w fun e w' => e = .returned (.int .u32 (hdl gen q)) ∧ w = w' := by
  have c2 := h.c2
  obtain ⟨a, cap, e, h1, h2, h3⟩ := h.gvIs
  obtain ⟨g, rfl, _, hf, hc⟩ := h3 (by omega)
  rw [e] at c2
  have hcq := hc q hq
  have b1 : (q : Int) < gen.length := by omega
  clear hc e
  go_enter Tryz.func58, Tryz.ntmps58
  go_wp2_with fail
  refine (rNewGood _ _ (by omega) (by omega) hg.1 hg.2 _).mono ?_
  rintro e w' ⟨rfl, rfl⟩
  go_wp2
  go_ret
  exact ⟨rfl, rfl⟩
end
end Go.Proofs.YtpinpipjlongaaaGreat

/- Opn, Recs, OpenP, one behind the other. -/
/- Structs that came in by value, opened. -/
namespace Go.Proofs.YtpinpipjlongaaaGreat
open Go.Joins Go.ChangeShapes Go.WideShapes Go.ChangeAt Go.RowKit Go.Deep
set_option linter.unusedVariables false

section
variable {H : Type} {enc : TypeId × Value → H} {P : Program} {w : World} {base : Nat} {spare : Nat → Bool} {held : Bool}
end

theorem i64_fits {n : Int} (h : (Lit.int .i64 n).wf = true) : -9223372036854775808 ≤ n ∧ n ≤ 9223372036854775807 := by
  simp [Lit.wf, IntKind.min, IntKind.max, IntKind.bits, IntKind.signed] at h; omega

section
variable {H : Type} {enc : TypeId × Value → H} {P : Program} {w : World} {base : Nat} {spare : Nat → Bool} {held : Bool}
end

end Go.Proofs.YtpinpipjlongaaaGreat

/- A slice of structs that came in, whose fields are one cell each: where each field of each struct lies, and that it reads as its type says. Over any program. -/
namespace Go.Proofs.YtpinpipjlongaaaGreat
open Go.ChangeShapes Go.WideShapes Go.ChangeAt Go.RowKit Go.Deep

/-- Where there is a struct, all lie from one place on; field j of struct i is the cell i * S + j behind it, and is what 'what j' says. -/
def Recs (w : World) (a : Option Addr) (len S : Nat) (what : Nat → Value → Prop) : Prop :=
  0 < len → ∃ b off, a = some ⟨b, off, none⟩ ∧ b < w.heap.size ∧ ∀ i, i < len → ∀ j, j < S → ∃ u, w.cell? ⟨b, off + i * S + j, none⟩ = some u ∧ what j u

theorem Recs.at_ {w : World} {a : Option Addr} {len S : Nat} {what : Nat → Value → Prop} (h : Recs w a len S what) {i : Nat} (hi : i < len) {wr : World} (hb : Below w.heap.size w wr) :
    ∃ b off, a = some ⟨b, off, none⟩ ∧ ∀ j, j < S → ∃ u, wr.cell? ⟨b, off + i * S + j, none⟩ = some u ∧ what j u := by
  obtain ⟨b, off, e, hlt, hc⟩ := h (by omega)
  refine ⟨b, off, e, fun j hj => ?_⟩
  obtain ⟨u, hu, hw⟩ := hc i hi j hj
  exact ⟨u, (hb.cell (p := ⟨b, off + i * S + j, none⟩) hlt).trans hu, hw⟩

section
variable {H : Type} {enc : TypeId × Value → H} {P : Program} {w : World} {base : Nat} {spare : Nat → Bool} {held : Bool}
theorem weightsAll_mem {e : TypeId} {ds : List (DataW H)} {d : DataW H} (h : d ∈ ds) : ∀ q ∈ d.weights P e, q ∈ DataW.weightsAll P e ds := by
  intro q hq
  induction ds with
  | nil => simp at h
  | cons d' r ih =>
    simp only [DataW.weightsAll, List.mem_append]
    rcases List.mem_cons.1 h with rfl | h
    · exact .inl hq
    · exact .inr (ih h)
theorem weightsEach_mem {ts : List TypeId} {ds : List (DataW H)} {j : Nat} {t : TypeId} {d : DataW H} (ht : ts[j]? = some t) (hd : ds[j]? = some d) : ∀ q ∈ d.weights P t, q ∈ DataW.weightsEach P ts ds := by
  intro q hq
  induction ts generalizing ds j with
  | nil => simp at ht
  | cons t0 ts ih =>
    cases ds with
    | nil => simp at hd
    | cons d0 ds =>
      simp only [DataW.weightsEach, List.mem_append]
      cases j with
      | zero =>
        simp only [List.getElem?_cons_zero, Option.some.injEq] at ht hd
        subst ht; subst hd
        exact .inl hq
      | succ j => exact .inr (ih (by simpa using ht) (by simpa using hd))

/-- .. and what each field weighs is among what the slice weighs. -/
theorem open_recs_w {t e : TypeId} {fs : Array Field} {fuel : Nat} {a : Option Addr} {len cap : Nat} {x : DataW H × List MemPlace} (ht : P.underlying t = some (.slice e)) (he : P.underlying e = some (.struct fs))
    (hone : oneCellFields P fs = true) (hC : P.cellsOf e = fs.size) (h0 : 0 < fs.size) (h : DataW.trod enc P w base spare held fuel t [.slice a len cap] = some x) :
    len ≤ maxLen ∧ Recs w a len fs.size (fun j u => ∀ f, fs[j]? = some f → ∃ n y, DataW.trod enc P w base spare held n f.type [u] = some y ∧ ∀ q ∈ y.1.weights P f.type, q ∈ x.1.weights P t) := by
  rcases open_slice ht h with ⟨hcs, _⟩ | ⟨ad, l, c, m, n, D, Pl, hcs, _, hl, hm, hmm, hX, hx⟩
  · simp only [List.cons.injEq, Value.slice.injEq, and_true] at hcs
    obtain ⟨rfl, rfl, rfl⟩ := hcs
    exact ⟨by simp, fun hh => absurd hh (by omega)⟩
  · simp only [List.cons.injEq, Value.slice.injEq, and_true] at hcs
    obtain ⟨rfl, rfl, rfl⟩ := hcs
    refine ⟨by omega, fun hlen => ?_⟩
    have hml : len ≤ m := by rw [hmm]; split <;> omega
    have hcell : ∀ i, i < len → ∀ j, j < fs.size → ∃ u, w.cell? (ad.add (i * fs.size + j)) = some u ∧ ∀ f, fs[j]? = some f → ∃ n y, DataW.trod enc P w base spare held n f.type [u] = some y ∧ ∀ q ∈ y.1.weights P f.type, q ∈ x.1.weights P t := by
      intro i hi j hj
      obtain ⟨cs', hc, ht'⟩ := hx i (by omega)
      rw [hC] at hc
      obtain ⟨ys, n', _, hys, hlen', hyl, hf⟩ := DataW.trod_struct he ht'
      obtain ⟨_, hcl, hat⟩ := World.cells?_some hc
      have hjc : j < cs'.length := by omega
      refine ⟨cs'[j], ?_, fun f hj' => ?_⟩
      · have := hat j hj
        rw [Go.Deep.add_add] at this
        rw [this, List.getElem?_eq_getElem hjc]
      · obtain ⟨ho, hk⟩ := hone_of hone j f hj'
        have h1 := hf j f hj'
        rw [ho, hk, List.drop_eq_getElem_cons hjc] at h1
        have hyj : j < ys.length := by omega
        refine ⟨n', _, h1.trans (List.getElem?_eq_getElem hyj), fun q hq => ?_⟩
        rw [hX]
        simp only [DataW.weights, ht, List.mem_cons, List.mem_append]
        right; left
        refine weightsAll_mem (d := D i) (List.mem_map.2 ⟨i, List.mem_range.2 hi, rfl⟩) q ?_
        have hD : D i = .agg (ys.map (·.1)) := by injection hys
        rw [hD]
        simp only [DataW.weights, he]
        refine weightsEach_mem (j := j) (t := f.type) (d := ys[j].1) ?_ ?_ q hq
        · rw [List.getElem?_map, Array.getElem?_toList, hj']; rfl
        · rw [List.getElem?_map, List.getElem?_eq_getElem hyj]; rfl
    obtain ⟨u0, hu0, _⟩ := hcell 0 hlen 0 h0
    have e0 : ad.add (0 * fs.size + 0) = ad := by unfold Addr.add; simp
    rw [e0] at hu0
    obtain ⟨_, _, _, _, hsp⟩ := World.shape?_of_cell? hu0
    obtain ⟨b, off, sp⟩ := ad
    simp only at hsp
    subst hsp
    refine ⟨b, off, rfl, World.block_lt_of_cell? w _ hu0, fun i hi j hj => ?_⟩
    obtain ⟨u, hu, hw⟩ := hcell i hi j hj
    refine ⟨u, ?_, hw⟩
    have e1 : (⟨b, off, none⟩ : Addr).add (i * fs.size + j) = ⟨b, off + i * fs.size + j, none⟩ := by
      rw [Nat.add_assoc]; unfold Addr.add; split
      · rename_i hz; rw [hz]; rfl
      · rfl
    rw [← e1]; exact hu
theorem open_recs {t e : TypeId} {fs : Array Field} {fuel : Nat} {a : Option Addr} {len cap : Nat} {x : DataW H × List MemPlace} (ht : P.underlying t = some (.slice e)) (he : P.underlying e = some (.struct fs))
    (hone : oneCellFields P fs = true) (hC : P.cellsOf e = fs.size) (h0 : 0 < fs.size) (h : DataW.trod enc P w base spare held fuel t [.slice a len cap] = some x) :
    len ≤ maxLen ∧ Recs w a len fs.size (fun j u => ∀ f, fs[j]? = some f → ∃ n y, DataW.trod enc P w base spare held n f.type [u] = some y) := by
  obtain ⟨hl, hr⟩ := open_recs_w ht he hone hC h0 h
  refine ⟨hl, fun h1 => ?_⟩
  obtain ⟨b, off, e, hlt, hc⟩ := hr h1
  refine ⟨b, off, e, hlt, fun i hi j hj => ?_⟩
  obtain ⟨u, hu, hw⟩ := hc i hi j hj
  exact ⟨u, hu, fun f hf => by obtain ⟨n, y, hy, _⟩ := hw f hf; exact ⟨n, y, hy⟩⟩
end
end Go.Proofs.YtpinpipjlongaaaGreat

/- A program that came in by value, opened. -/
namespace Go.Proofs.YtpinpipjlongaaaGreat
open Go.Joins Go.ChangeShapes Go.WideShapes Go.ChangeAt Go.RowKit Go.Deep
set_option linter.unusedVariables false

/-- What its instructions and places may be. -/
structure PrgWf (c : Prg) : Prop where
  ins : ∀ i ∈ c.l, i.Wf
  lo0 : -9223372036854775808 ≤ c.lo
  lo1 : c.lo ≤ 9223372036854775807
  un0 : -9223372036854775808 ≤ c.un
  un1 : c.un ≤ 9223372036854775807

/-- So many, one by one. -/
theorem ins_list {w : World} {b off : Nat} : ∀ n : Nat, (∀ k, k < n → ∃ i : Ins, i.Wf ∧ ∀ j, j < 8 → w.cell? ⟨b, off + k * 8 + j, none⟩ = (insC i)[j]?) → ∃ l : List Ins, l.length = n ∧ (∀ i ∈ l, i.Wf) ∧ ∀ k i, l[k]? = some i → ∀ j, j < 8 → w.cell? ⟨b, off + k * 8 + j, none⟩ = (insC i)[j]?
  | 0, _ => ⟨[], rfl, by simp, by simp⟩
  | n + 1, h => by
    obtain ⟨l, h1, h2, h3⟩ := ins_list n fun k hk => h k (by omega)
    obtain ⟨i, hw, hi⟩ := h n (by omega)
    refine ⟨l ++ [i], by simp [h1], fun x hx => ?_, fun k x hk j hj => ?_⟩
    · rcases List.mem_append.1 hx with hx | hx
      · exact h2 x hx
      · simp at hx; subst hx; exact hw
    · rw [List.getElem?_append] at hk
      split at hk
      · exact h3 k x hk j hj
      · rename_i hlt
        have hkn : k = n := by
          have := (List.getElem?_eq_some_iff.1 hk).1
          simp at this
          omega
        subst hkn
        rw [h1, Nat.sub_self] at hk
        simp at hk
        subst hk
        exact hi j hj

end Go.Proofs.YtpinpipjlongaaaGreat

/- The law's Ref: the document's program. -/
namespace Go.Proofs.YtpinpipjlongaaaGreat
open Go.ChangeShapes Go.WideShapes Go.ChangeAt Go.RowKit
set_option linter.unusedVariables false

theorem refInfo : (Tryz.prog.info? 97).map (fun i => (i.zero, i.size, i.bytes)) = some (some (.agg #[.int .i64 0, .int .i64 0, .int .i64 0, .int .i64 0, .int .i64 0, .int .i64 0, .int .u32 0, .int .i64 0]), 8, 64) := by kernel_rfl
theorem take_snoc {l : List Ins} {k : Nat} (h : k < l.length) : l.take (k + 1) = l.take k ++ [l[k]] := by simp

/-- Behind one more instruction. -/
theorem ref_end {w x y w' : World} {o : Obj} {lo un : Int} {k : Nat} {l : List Ins} {v v' : Value} {i : Ins} {R O : Nat} {rs : Array Value} (hb : Below w.heap.size w x) (hO : Bk x O 34 #[v, .int .i64 lo, .int .i64 un]) (hR : Bk x R 34 rs) (hne : R ≠ O) (hwO : w.heap.size ≤ O)
    (hv : x.ownsRow w.heap.size 97 8 v k (progC l)) (hy : Below x.heap.size x y) (hw : w'.ownsRow w.heap.size 97 8 v' (k + 1) (progC l ++ insC i)) (hg : (y.alloc o).grownBy w' v.ownBlock) :
    Below w.heap.size w (w'.setCell ⟨O, 0, none⟩ v') ∧ Bk (w'.setCell ⟨O, 0, none⟩ v') O 34 #[v', .int .i64 lo, .int .i64 un] ∧ Bk (w'.setCell ⟨O, 0, none⟩ v') R 34 rs ∧ (w'.setCell ⟨O, 0, none⟩ v').ownsRow w.heap.size 97 8 v' (k + 1) (progC (l ++ [i])) := by
  have hA : Within x (y.alloc o) (fun _ => False) := (within_of_below hy).alloc o
  have hB : Within (y.alloc o) w' (fun b => some b = v.ownBlock) := .of_grown hg (by rintro i e; exact .inl e.symm)
  have hC : Within x w' (fun b => some b = v.ownBlock) := (hA.wide (by simp)).then_ hB (by rintro i e; exact .inl e)
  have un_ : ∀ {g : Nat} {cs : Array Value}, Bk x g 34 cs → Bk w' g 34 cs := fun hk => hk.within hC fun e => by
    obtain ⟨cs, hcs⟩ := own_bk hv e.symm
    exact Bk.unlike hcs hk (by decide) rfl
  have hO2 := un_ hO
  have hR2 := un_ hR
  have hb2 : Below w.heap.size w w' := by
    refine hb.trans ⟨hC.os, hC.tape, hC.output, hC.size, fun i hi => hC.block i (Nat.lt_of_lt_of_le hi hb.size) fun e => ?_⟩
    have := (World.ownsRow.lt hv i e.symm).1
    omega
  refine ⟨hb2.setCell hwO _, hO2.put 0 v', hR2.off hne _, ?_⟩
  rw [progC_snoc]
  refine own_within hw ((Within.refl w' (fun b => b = O)).put O 0 v' (.inl rfl)) fun b e e2 => ?_
  obtain ⟨cs, hcs⟩ := own_bk hw e
  exact Bk.unlike hcs hO2 (by decide) e2

set_option maxHeartbeats 1000000 in
theorem lRefO (c : Prg) (v : Value) (w : World) (hv : Pv w v c) (hl : c.l.length ≤ 1000) :
    Calls Tryz.prog 18 #[v] w fun e w' => ∃ sl, e = .returned (.agg #[sl, .int .i64 c.lo, .int .i64 c.un]) ∧ w'.ownsRow w.heap.size 97 8 sl c.l.length (progC c.l) ∧ Below w.heap.size w w' := by
  obtain ⟨a, ca, rfl, hc1, hc2, _, ha⟩ := hv
  obtain ⟨l, lo, un⟩ := c
  simp only at hl hc1 ha ⊢
  have q0 := ((Bk.made w 24 #[.slice a l.length ca, .int .i64 lo, .int .i64 un]).alloc (.cells #[.slice none 0 0, .int .i64 0, .int .i64 0] 34))
  have q1 := Bk.made (w.alloc (.cells #[.slice a l.length ca, .int .i64 lo, .int .i64 un] 24)) 34 #[.slice none 0 0, .int .i64 0, .int .i64 0]
  rw [World.size_alloc] at q1
  have b0 : Below w.heap.size w ((w.alloc (.cells #[.slice a l.length ca, .int .i64 lo, .int .i64 un] 24)).alloc (.cells #[.slice none 0 0, .int .i64 0, .int .i64 0] 34)) := ((Below.refl _ _).alloc (Nat.le_refl _) _).alloc (by simp) _
  go_enter Tryz.func18, Tryz.ntmps18
  go_upto_region 1 with fail
  generalize (w.alloc (.cells #[.slice a l.length ca, .int .i64 lo, .int .i64 un] 24)).alloc (.cells #[.slice none 0 0, .int .i64 0, .int .i64 0] 34) = x at *
  obtain ⟨x0, x1, x2⟩ : x.cell? ⟨w.heap.size, 0, none⟩ = some (.slice a l.length ca) ∧ x.cell? ⟨w.heap.size, 1, none⟩ = some (.int .i64 lo) ∧ x.cell? ⟨w.heap.size, 2, none⟩ = some (.int .i64 un) := ⟨q0.cell 0, q0.cell 1, q0.cell 2⟩
  go_upto_region 2 with fail
  have O0 := Bk.made x 34 #[.slice none 0 0, .int .i64 lo, .int .i64 un]
  have hxw : w.heap.size + 1 < x.heap.size := q1.lt
  replace q0 := q0.alloc (.cells #[.slice none 0 0, .int .i64 lo, .int .i64 un] 34)
  replace q1 := q1.alloc (.cells #[.slice none 0 0, .int .i64 lo, .int .i64 un] 34)
  replace b0 := b0.alloc (o := .cells #[.slice none 0 0, .int .i64 lo, .int .i64 un] 34) b0.size
  generalize x.heap.size = O at *
  generalize x.alloc (.cells #[.slice none 0 0, .int .i64 lo, .int .i64 un] 34) = x at *
  have z0 : x.cell? ⟨w.heap.size, 0, none⟩ = some (.slice a l.length ca) := q0.cell 0
  clear x0 x1 x2 q0
  go_wp2
  go_loopw [14] (fun i wr => ∃ (k : Nat) (v : Value), i = .int .i64 k ∧ k ≤ l.length ∧ Below w.heap.size w wr ∧ Bk wr O 34 #[v, .int .i64 lo, .int .i64 un] ∧ Bk wr (w.heap.size + 1) 34 #[.slice none 0 0, .int .i64 0, .int .i64 0] ∧ wr.ownsRow w.heap.size 97 8 v k (progC (l.take k))) (fun i _ => l.length - (intOf i).toNat)
  case atStart => exact ⟨0, .slice none 0 0, rfl, Nat.zero_le _, b0, O0, q1, World.ownsRow_nil _ _ _ _⟩
  case round =>
    obtain ⟨k, v, rfl, hk, hb, hO, hR, hv⟩ := hrel
    clear z0 O0 q1 b0
    by_cases hlt : k < l.length
    · have hki : (k : Int) < l.length := by omega
      obtain ⟨g, off, rfl, hgl, e0, e1, e2, e3, e4, e5, e6, e7⟩ := (ha.below hb).at_ (List.getElem?_eq_getElem hlt)
      have HT := Lib.hid (take_snoc hlt)
      generalize l[k] = i at *
      have HF := Lib.hid (fun W => rRef i W)
      obtain ⟨op, d, s, t, u, a', k', pl⟩ := i
      simp only at e0 e1 e2 e3 e4 e5 e6 e7
      unfold iv at HF
      simp only at HF
      obtain ⟨a2, cap2, rfl, hcap2, hmax2, _⟩ := own_is hv
      go_upto_region 5 with fail
      have m2 := Ib.made wr op d s t u a' k' pl
      replace hb := hb.alloc (o := .cells #[.int .i64 op, .int .i64 d, .int .i64 s, .int .i64 t, .int .i64 u, .int .i64 a', .int .u32 k', .int .i64 pl] 45) hb.size
      replace hO := hO.alloc (.cells #[.int .i64 op, .int .i64 d, .int .i64 s, .int .i64 t, .int .i64 u, .int .i64 a', .int .u32 k', .int .i64 pl] 45)
      replace hR := hR.alloc (.cells #[.int .i64 op, .int .i64 d, .int .i64 s, .int .i64 t, .int .i64 u, .int .i64 a', .int .u32 k', .int .i64 pl] 45)
      replace hv := World.ownsRow.alloc hv (.cells #[.int .i64 op, .int .i64 d, .int .i64 s, .int .i64 t, .int .i64 u, .int .i64 a', .int .u32 k', .int .i64 pl] 45)
      clear e0 e1 e2 e3 e4 e5 e6 e7
      generalize wr.heap.size = q at *
      generalize wr.alloc (.cells #[.int .i64 op, .int .i64 d, .int .i64 s, .int .i64 t, .int .i64 u, .int .i64 a', .int .u32 k', .int .i64 pl] 45) = x at *
      obtain ⟨e0, e1, e2, e3, e4, e5, e6, e7⟩ := m2.cells
      simp only at e0 e1 e2 e3 e4 e5 e6 e7
      have v0 : x.cell? ⟨O, 0, none⟩ = some (.slice a2 k cap2) := hO.cell 0
      have HV0 : Hid (∀ y, Below x.heap.size x y → y.cell? ⟨O, 0, none⟩ = some (.slice a2 k cap2)) := Lib.hid fun y hy => (hy.cell (p := ⟨O, 0, none⟩) hO.lt).trans v0
      have HV1 : Hid (∀ y, Below x.heap.size x y → ∀ o, (y.alloc o).cell? ⟨O, 0, none⟩ = some (.slice a2 k cap2)) := Lib.hid fun y hy o => (Bk.alloc ((hy.block _ hO.lt).trans hO) o).cell 0
      have HOW : Hid (∀ y, Below x.heap.size x y → (y.alloc (.cells #[.int .i64 op, .int .i64 d, .int .i64 s, .int .i64 t, .int .i64 u, .int .i64 a', .int .u32 k', .int .i64 pl] 97)).ownsRow w.heap.size 97 8 (.slice a2 k cap2) k (progC (l.take k))) := Lib.hid fun y hy => World.ownsRow.alloc (own_within hv (within_of_below hy) (by simp)) _
      have HNW : Hid (∀ y : World, ∀ (j : Nat) (uu : Value), [Value.int .i64 op, .int .i64 d, .int .i64 s, .int .i64 t, .int .i64 u, .int .i64 a', .int .u32 k', .int .i64 pl][j]? = some uu → (y.alloc (.cells #[.int .i64 op, .int .i64 d, .int .i64 s, .int .i64 t, .int .i64 u, .int .i64 a', .int .u32 k', .int .i64 pl] 97)).cell? ((⟨y.heap.size, 0, none⟩ : Addr).add j) = some uu) := Lib.hid fun y => news_bk (Bk.made y 97 #[.int .i64 op, .int .i64 d, .int .i64 s, .int .i64 t, .int .i64 u, .int .i64 a', .int .u32 k', .int .i64 pl])
      have HBS : Hid (∀ y, Below x.heap.size x y → w.heap.size ≤ (y.alloc (.cells #[.int .i64 op, .int .i64 d, .int .i64 s, .int .i64 t, .int .i64 u, .int .i64 a', .int .u32 k', .int .i64 pl] 97)).heap.size) := Lib.hid fun y hy => by rw [World.size_alloc]; have := hb.size; have := hy.size; omega
      have HEND : Hid (∀ y, Below x.heap.size x y → ∀ (w' : World) (v' : Value), w'.ownsRow w.heap.size 97 8 v' (k + 1) (progC (l.take k) ++ insC ⟨op, d, s, t, u, a', k', pl⟩) → (y.alloc (.cells #[.int .i64 op, .int .i64 d, .int .i64 s, .int .i64 t, .int .i64 u, .int .i64 a', .int .u32 k', .int .i64 pl] 97)).grownBy w' (Value.slice a2 k cap2).ownBlock →
        Below w.heap.size w (w'.setCell ⟨O, 0, none⟩ v') ∧ Bk (w'.setCell ⟨O, 0, none⟩ v') O 34 #[v', .int .i64 lo, .int .i64 un] ∧ Bk (w'.setCell ⟨O, 0, none⟩ v') (w.heap.size + 1) 34 #[.slice none 0 0, .int .i64 0, .int .i64 0] ∧ (w'.setCell ⟨O, 0, none⟩ v').ownsRow w.heap.size 97 8 v' (k + 1) (progC (l.take (k + 1)))) :=
        Lib.hid fun y hy w' v' h1 h2 => by rw [HT.out]; exact ref_end hb hO hR (by omega) (by omega) hv hy h1 h2
      have HKO : Hid (∀ y, Below x.heap.size x y → ∀ (w' : World), (y.alloc (.cells #[.int .i64 op, .int .i64 d, .int .i64 s, .int .i64 t, .int .i64 u, .int .i64 a', .int .u32 k', .int .i64 pl] 97)).grownBy w' (Value.slice a2 k cap2).ownBlock → Bk w' O 34 #[.slice a2 k cap2, .int .i64 lo, .int .i64 un]) := Lib.hid fun y hy w' hg =>
        Bk.grown (Bk.alloc ((hy.block _ hO.lt).trans hO) _) hg fun e => by
          obtain ⟨cs, hcs⟩ := own_bk hv e.symm
          exact Bk.unlike hcs hO (by decide) rfl
      clear hO hR hv hb m2 ha HT
      go_region_law (first
        | (have hy9 := hy; refine step_own rfl (.tmp 19) (.tmp 22) 32 rfl _ 64 Tryz.underlying32 refInfo rfl (by omega) (by omega) (HOW.out y hy) (by simp [Act.eval]) (insC ⟨op, d, s, t, u, a', k', pl⟩) rfl (insC_one _) y.heap.size (by simp [Act.eval]) (HNW.out y) (by omega) (HBS.out y hy) ?_; intro v' w' hown hgr hloc; have hko := HKO.out y hy w' hgr; have ck0 : w'.cell? ⟨O, 0, none⟩ = some (.slice a2 k cap2) := hko.cell 0; have cf0 := hko.free 0; obtain ⟨a3, cap3, rfl, _, _, _⟩ := own_is hown)
        | (go_simp; go_at_call 41; refine (HF.out _).mono ?_; rintro e y ⟨rfl, hy0⟩; have hy : Below x.heap.size x y := below_of_drew hy0; have hyv := HV0.out y hy; have hyo := HV1.out y hy))
      all_goals (
        have HS := Lib.hid (HEND.out y hy w' _ hown hgr)
        clear HOW HNW HBS HEND HKO HV0 HV1 HF hgr hown hloc
        go_wp2
        obtain ⟨s1, s2, s3, s4⟩ := HS.out
        go_roundw
        case rel => exact ⟨k + 1, _, by go_num, by omega, s1, s2, s3, s4⟩
        case measure =>
          show l.length - ((k : Int) + 1).toNat < l.length - (k : Int).toNat
          omega)
    · obtain rfl : k = l.length := by omega
      have hki : ¬ (l.length : Int) < l.length := by omega
      rw [List.take_length] at hv
      obtain ⟨a2, cap2, rfl, hcap2, hmax2, _⟩ := own_is hv
      obtain ⟨y0, y1, y2⟩ : wr.cell? ⟨O, 0, none⟩ = some (.slice a2 l.length cap2) ∧ wr.cell? ⟨O, 1, none⟩ = some (.int .i64 lo) ∧ wr.cell? ⟨O, 2, none⟩ = some (.int .i64 un) := ⟨hO.cell 0, hO.cell 1, hO.cell 2⟩
      obtain ⟨z0, z1, z2⟩ : wr.cell? ⟨w.heap.size + 1, 0, none⟩ = some (.slice none 0 0) ∧ wr.cell? ⟨w.heap.size + 1, 1, none⟩ = some (.int .i64 0) ∧ wr.cell? ⟨w.heap.size + 1, 2, none⟩ = some (.int .i64 0) := ⟨hR.cell 0, hR.cell 1, hR.cell 2⟩
      have zf := hR.free
      clear ha
      go_wp2
      have h9 := put3_bk hR (.slice a2 l.length cap2) (.int .i64 lo) (.int .i64 un)
      have b9 := put3_below hb (by show w.heap.size ≤ w.heap.size + 1; omega) (.slice a2 l.length cap2) (.int .i64 lo) (.int .i64 un)
      have o9 : (put3 wr (w.heap.size + 1) (.slice a2 l.length cap2) (.int .i64 lo) (.int .i64 un)).ownsRow w.heap.size 97 8 (.slice a2 l.length cap2) l.length (progC l) := own_within hv ((((Within.refl wr (fun b => b = w.heap.size + 1)).put (w.heap.size + 1) 0 (.slice a2 l.length cap2) (.inl rfl)).put (w.heap.size + 1) 1 (.int .i64 lo) (.inl rfl)).put (w.heap.size + 1) 2 (.int .i64 un) (.inl rfl)) (fun b e e2 => by
        obtain ⟨cs, hcs⟩ := own_bk hv e
        exact Bk.unlike hcs hR (by decide) e2)
      generalize hv9 : (((wr.setCell ⟨w.heap.size + 1, 0, none⟩ (.slice a2 l.length cap2)).setCell ⟨w.heap.size + 1, 1, none⟩ (.int .i64 lo)).setCell ⟨w.heap.size + 1, 2, none⟩ (.int .i64 un)) = v9
      replace hv9 : put3 wr (w.heap.size + 1) (.slice a2 l.length cap2) (.int .i64 lo) (.int .i64 un) = v9 := hv9
      rw [hv9] at h9 b9 o9
      obtain ⟨q0, q1, q2⟩ : v9.cell? ⟨w.heap.size + 1, 0, none⟩ = some (.slice a2 l.length cap2) ∧ v9.cell? ⟨w.heap.size + 1, 1, none⟩ = some (.int .i64 lo) ∧ v9.cell? ⟨w.heap.size + 1, 2, none⟩ = some (.int .i64 un) := ⟨h9.cell 0, h9.cell 1, h9.cell 2⟩
      refine bodyPost_ret (v := .agg #[.slice a2 l.length cap2, .int .i64 lo, .int .i64 un]) (by simp [results, Tryz.results18, go_sem, q0, q1, q2]) rfl ⟨.slice a2 l.length cap2, rfl, o9, b9⟩
theorem own_pv {w : World} {base : Nat} {t : TypeId} {sl : Value} {c : Prg} (h : w.ownsRow base t 8 sl c.l.length (progC c.l)) : Pv w (.agg #[sl, .int .i64 c.lo, .int .i64 c.un]) c := by
  obtain ⟨a, cap, rfl, h1, h2, _⟩ := own_is h
  exact ⟨a, cap, rfl, h1, h2, own_nil h, sli_own h⟩
end Go.Proofs.YtpinpipjlongaaaGreat

/- asm.isPlace, asm.Right. -/
namespace Go.Proofs.YtpinpipjlongaaaGreat
open Go.ChangeShapes Go.WideShapes Go.ChangeAt Go.RowKit
set_option linter.unusedVariables false

theorem cIsPlace (p n : Int) (w : World) : Calls Tryz.prog 43 #[.int .i64 p, .int .i64 n] w fun e w' => e = .returned (.bool (decide (0 ≤ p) && decide (p < n))) ∧ w = w' := by
  by_cases h1 : 0 ≤ p
  · by_cases h2 : p < n
    · go_enter Tryz.func43, Tryz.ntmps43
      go_wp2
      go_ret
      exact ⟨by simp [h1, h2], rfl⟩
    · go_enter Tryz.func43, Tryz.ntmps43
      go_wp2
      go_ret
      exact ⟨by simp; omega, rfl⟩
  · go_enter Tryz.func43, Tryz.ntmps43
    go_wp2
    go_ret
    exact ⟨by simp; omega, rfl⟩

set_option maxHeartbeats 1000000 in
theorem cAsmRightK (c : Prg) (v : Value) (w : World) (hv : Pv w v c) (hw : ∀ i ∈ c.l, 0 ≤ i.k ∧ i.k < 4294967296) :
    Calls Tryz.prog 20 #[v] w fun e w' => e = .returned (.bool (prgB c)) ∧ Below w.heap.size w w' := by
  obtain ⟨a, ca, rfl, hc1, hc2, _, ha⟩ := hv
  have k1 := Bk.made w 24 #[.slice a c.l.length ca, .int .i64 c.lo, .int .i64 c.un]
  have b0 : Below w.heap.size w (w.alloc (.cells #[.slice a c.l.length ca, .int .i64 c.lo, .int .i64 c.un] 24)) := (Below.refl _ _).alloc (Nat.le_refl _) _
  replace ha := ha.below b0
  go_enter Tryz.func20, Tryz.ntmps20
  go_upto_region 1 with fail
  generalize w.alloc (.cells #[.slice a c.l.length ca, .int .i64 c.lo, .int .i64 c.un] 24) = x at *
  obtain ⟨x0, x1, x2⟩ : x.cell? ⟨w.heap.size, 0, none⟩ = some (.slice a c.l.length ca) ∧ x.cell? ⟨w.heap.size, 1, none⟩ = some (.int .i64 c.lo) ∧ x.cell? ⟨w.heap.size, 2, none⟩ = some (.int .i64 c.un) := ⟨k1.cell 0, k1.cell 1, k1.cell 2⟩
  by_cases h1 : 1 ≤ c.l.length
  case neg =>
    have HF := Lib.hid (prgB_few (c := c) (by omega))
    have i1 : (c.l.length : Int) < 1 := by omega
    go_wp2
    go_ret
    exact ⟨by rw [HF.out]; rfl, b0⟩
  case pos =>
    have i1 : ¬ (c.l.length : Int) < 1 := by omega
    by_cases h2 : c.l.length ≤ 64
    case neg =>
      have HF := Lib.hid (prgB_few (c := c) (by omega))
      have i2 : (64 : Int) < c.l.length := by omega
      go_wp2
      go_ret
      exact ⟨by rw [HF.out]; rfl, b0⟩
    case pos =>
      have i2 : ¬ (64 : Int) < c.l.length := by omega
      have HP := Lib.hid (prgB_is c h1 h2)
      go_wp2
      go_loopw [2, 18] (fun q i wr => ∃ k : Nat, q = .bool false ∧ i = .int .i64 k ∧ k ≤ c.l.length ∧ Below x.heap.size x wr ∧ Hid (∀ j i, c.l[j]? = some i → j < k → rightB i c.l.length = true)) (fun _ i _ => c.l.length - (intOf i).toNat)
      case atStart => exact ⟨0, rfl, rfl, Nat.zero_le _, Below.refl _ _, Lib.hid (fun _ _ _ h => by omega)⟩
      case round =>
        obtain ⟨k, rfl, rfl, hk, hb, HA⟩ := hrel
        have hbw := b0.trans (hb.mono b0.size)
        by_cases hlt : k < c.l.length
        · have hki : (k : Int) < c.l.length := by omega
          have hge := List.getElem?_eq_getElem hlt
          obtain ⟨g, off, rfl, hgl, e0, e1, e2, e3, e4, e5, e6, e7⟩ := (ha.below hb).at_ hge
          have hWf := hw _ (List.getElem_mem hlt)
          have HG := Lib.hid hge
          clear hge
          generalize c.l[k] = i at *
          have HR := Lib.hid (fun W => cRight i (c.l.length : Int) hWf.1 hWf.2 W)
          obtain ⟨op, d, s, t, u, a', k', pl⟩ := i
          simp only at e0 e1 e2 e3 e4 e5 e6 e7
          go_upto_region 7 with fail
          have m2 := Ib.made wr op d s t u a' k' pl
          replace hb := hb.alloc (o := .cells #[.int .i64 op, .int .i64 d, .int .i64 s, .int .i64 t, .int .i64 u, .int .i64 a', .int .u32 k', .int .i64 pl] 45) hb.size
          clear e0 e1 e2 e3 e4 e5 e6 e7 hbw
          generalize wr.heap.size = q at *
          generalize wr.alloc (.cells #[.int .i64 op, .int .i64 d, .int .i64 s, .int .i64 t, .int .i64 u, .int .i64 a', .int .u32 k', .int .i64 pl] 45) = y at *
          have hbw := b0.trans (hb.mono b0.size)
          obtain ⟨e0, e1, e2, e3, e4, e5, e6, e7⟩ := m2.cells
          simp only at e0 e1 e2 e3 e4 e5 e6 e7
          go_wp2_with fail
          refine (HR.out y).mono ?_
          rintro e z ⟨rfl, hz⟩
          replace hb := hb.trans (hz.mono hb.size)
          replace hbw := hbw.trans (hz.mono hbw.size)
          cases hq : rightB ⟨op, d, s, t, u, a', k', pl⟩ c.l.length with
          | true =>
            have HA2 : Hid (∀ j i, c.l[j]? = some i → j < k + 1 → rightB i c.l.length = true) := Lib.hid fun j i hj hjk => by
              by_cases e : j = k
              · subst e
                rw [HG.out] at hj
                injection hj with hj
                subst hj
                exact hq
              · exact HA.out j i hj (by omega)
            clear hq HA HR HG
            go_wp2
            go_roundw
            case rel => exact ⟨k + 1, rfl, by go_num, by omega, hb, HA2⟩
            case measure =>
              show c.l.length - ((k : Int) + 1).toNat < c.l.length - (k : Int).toNat
              omega
          | false =>
            have HQ : Hid (prgB c = false) := Lib.hid (by
              rw [HP.out]
              have : (c.l.all fun i => rightB i c.l.length) = false := by
                rw [List.all_eq_false]
                exact ⟨_, List.mem_of_getElem? HG.out, by rw [hq]; simp⟩
              rw [this]; rfl)
            clear hq HA HR HG
            go_wp2
            go_ret
            exact ⟨by rw [HQ.out]; rfl, hbw⟩
        · have hki : ¬ (k : Int) < c.l.length := by omega
          have hall : (c.l.all fun i => rightB i c.l.length) = true := by
            rw [List.all_eq_true]
            intro i hi
            obtain ⟨j, hj, rfl⟩ := List.getElem_of_mem hi
            exact HA.out j _ (List.getElem?_eq_getElem hj) (by omega)
          rw [hall, Bool.true_and] at HP
          have HI1 := Lib.hid (fun W => cIsPlace c.lo (c.l.length : Int) W)
          have HI2 := Lib.hid (fun W => cIsPlace c.un (c.l.length : Int) W)
          replace x1 : wr.cell? ⟨w.heap.size, 1, none⟩ = some (.int .i64 c.lo) := (hb.cell (p := ⟨w.heap.size, 1, none⟩) k1.lt).trans x1
          replace x2 : wr.cell? ⟨w.heap.size, 2, none⟩ = some (.int .i64 c.un) := (hb.cell (p := ⟨w.heap.size, 2, none⟩) k1.lt).trans x2
          clear HA hall x0
          generalize (decide (0 ≤ c.lo) && decide (c.lo < c.l.length)) = q1 at *
          generalize (decide (0 ≤ c.un) && decide (c.un < c.l.length)) = q2 at *
          go_wp2_with fail
          refine (HI1.out wr).mono ?_
          rintro e z ⟨rfl, rfl⟩
          cases q1 with
          | false =>
            go_wp2
            go_ret
            exact ⟨by rw [HP.out]; rfl, hbw⟩
          | true =>
            go_wp2_with fail
            refine (HI2.out wr).mono ?_
            rintro e z ⟨rfl, rfl⟩
            go_wp2
            go_ret
            exact ⟨by rw [HP.out]; simp, hbw⟩
end Go.Proofs.YtpinpipjlongaaaGreat

/- slices.Equal of instructions, asm.Same, the document's Same. -/
namespace Go.Proofs.YtpinpipjlongaaaGreat
open Go.ChangeShapes Go.WideShapes Go.ChangeAt Go.RowKit
set_option linter.unusedVariables false

/-- Two boxes, for a program each. -/
theorem two_boxes (w : World) (t : TypeId) (xs ys : Array Value) : Below w.heap.size w ((w.alloc (.cells xs t)).alloc (.cells ys t)) ∧ Bk ((w.alloc (.cells xs t)).alloc (.cells ys t)) w.heap.size t xs ∧ Bk ((w.alloc (.cells xs t)).alloc (.cells ys t)) (w.heap.size + 1) t ys := by
  have h := Bk.made (w.alloc (.cells xs t)) t ys
  rw [World.size_alloc] at h
  exact ⟨((Below.refl _ _).alloc (Nat.le_refl _) _).alloc (by simp) _, (Bk.made w t xs).alloc _, h⟩

end Go.Proofs.YtpinpipjlongaaaGreat

/- mem.New: a memory of areas, for all sizes and words; or none. -/
namespace Go.Proofs.YtpinpipjlongaaaGreat
set_option maxRecDepth 100000
open Go.ChangeShapes Go.WideShapes Go.ChangeAt Go.RowKit
set_option linter.unusedVariables false

/-- A copy into a row that is known whole: nothing but that row has changed. -/
theorem wpList_copy_only {P : Program} {w : World} {ops : Array Oper} {rest : List Oper} {o : Oper} {a : Act} {Q : Exit → Act → World → Prop} (hgd : o.guard = none) (d s : Operand) (dT sT : TypeId)
    (ho : o.op = .call { callee := .builtin .copy, args := #[d, s], argTypes := #[dT, sT] }) (elem : TypeId) (hu : P.underlying dT = some (.slice elem)) (hsz : (P.info? elem).map (·.size) = some 1)
    (dp sp : Option Addr) (dLen dCap sLen sCap : Nat) (hd : a.eval d = .slice dp dLen dCap) (hs : a.eval s = .slice sp sLen sCap)
    (g off : Nat) (cur : List Value) (t : TypeId) (hg : Bk w g t cur.toArray) (cs : List Value) (hn : cs.length = Nat.min sLen dLen)
    (hpos : 0 < cs.length → dp = some ⟨g, off, none⟩ ∧ ∃ ad, sp = some ad ∧ ∀ j v, cs[j]? = some v → w.cell? (ad.add j) = some v)
    (hfit : off + cs.length ≤ cur.length) (h1 : ∀ v ∈ cs, v.oneCell' = true)
    (h : ∀ w', Bk w' g t (splice cur off cs).toArray → Only w w' g → wpList P ops Q rest (a.put o.dst (goInt cs.length)) w') :
    wpList P ops Q (o :: rest) a w := by
  by_cases h0 : cs.length = 0
  · obtain rfl : cs = [] := List.eq_nil_of_length_eq_zero h0
    refine wpList_copy_nothing hgd d s dT sT ho elem hu hsz dp sp dLen dCap sLen sCap hd hs (by simpa using hn.symm) ?_
    exact h w (by unfold Bk at *; simpa [splice] using hg) (grown_refl _ _)
  · obtain ⟨rfl, ad, rfl, hsrc⟩ := hpos (by omega)
    refine wpList_copy_own hgd d s dT sT ho elem hu hsz g off dLen dCap ad sLen sCap hd hs cur.toArray t hg cs hn hsrc (by simpa using hfit) h1 ?_
    exact h _ (show _ = _ by simpa [splice] using setRow_heap w g _ _ t _ hg) ⟨rfl, rfl, rfl, by simp [World.setRow], fun k _ hne => setRow_other w g k _ (fun e => hne (by rw [e]))⟩

theorem given_add {k : IntKind} {w : World} {b off : Nat} {xs : List Int} (hc : ∀ i, i < xs.length → w.cell? ⟨b, off + i, none⟩ = some (.int k (nth xs i))) :
    ∀ j v, (xs.map (Value.int k))[j]? = some v → w.cell? ((⟨b, off, none⟩ : Addr).add j) = some v := by
  intro j v hj
  have hl : j < xs.length := by have := (List.getElem?_eq_some_iff.1 hj).1; simpa using this
  rw [List.getElem?_map, nth_get hl] at hj
  have e : (⟨b, off, none⟩ : Addr).add j = ⟨b, off + j, none⟩ := by unfold Addr.add; split <;> simp_all
  rw [e, hc j hl, ← hj]; rfl

theorem made_ints (n : Nat) : madeCells #[.int .i64 0] n = ((List.replicate n (0 : Int)).map (Value.int .i64)).toArray := by
  apply Array.ext
  · simp [madeCells]
  · intro i h1 h2; simp [madeCells, Nat.mod_one]
theorem splice_all {α : Type} (L cs : List α) (h : L.length = cs.length) : splice L 0 cs = cs := by
  unfold splice; rw [Nat.zero_add, ← h, List.drop_length]; simp

theorem copy_src {x : World} {s : Nat} {a : Option Addr} {zs : List Int} (h : Given .i64 x a zs) :
    0 < (zs.map (Value.int .i64)).length → (some ⟨s, 0, none⟩ : Option Addr) = some ⟨s, 0, none⟩ ∧ ∃ ad, a = some ad ∧ ∀ j v, (zs.map (Value.int .i64))[j]? = some v → x.cell? (ad.add j) = some v := by
  intro h0
  refine ⟨rfl, ?_⟩
  obtain ⟨b', off, e, _, hc⟩ := h (by simpa using h0)
  exact ⟨_, e, given_add hc⟩

/-- A new memory, in memory of its own. -/
def NewMm (w : World) (zs xs : List Int) (e : Ending) (w' : World) : Prop :=
  ∃ p q g s, e = .returned (.tuple #[.pointer (some ⟨p, 0, none⟩), .int .i64 0]) ∧ Mm w' p q g s zs xs ∧ (w.heap.size ≤ p ∧ w.heap.size ≤ q ∧ w.heap.size ≤ g ∧ w.heap.size ≤ s) ∧ w.grownBy w' none

section
variable {w : World} {a b : Option Addr} {zs ys : List Int}
set_option maxHeartbeats 1000000 in
theorem mNew (ha : Given .i64 w a zs) (hb : Given .u32 w b ys) (hz : RightZ zs) (ht : tot zs = ys.length) (hl : ys.length ≤ 8192) (hy : U32s ys) (c1 c2 : Nat) :
    Calls Tryz.prog 21 #[.slice a zs.length c1, .slice b ys.length c2] w (NewMm w zs ys) := by
  obtain ⟨i0, hi0, hz0, hz1, hz2⟩ := info_parts intinfo
  have h8 := hz.1
  have hmk := fun W : World => run_make (P := Tryz.prog) W 25 3 i0 _ Tryz.underlying25 hi0 hz0 .i64 .i64 zs.length zs.length (by omega) (by omega) (by rw [hz2]; omega) (by omega)
  rw [hz1] at hmk
  clear hi0 hz0 hz1 hz2
  have hR := Lib.hid (mRight ha hz c1)
  have hT := Lib.hid (cTogether ha hz c1)
  have hN := Lib.hid (cNew ys.length hl w)
  rw [ht] at hT
  have HT := Lib.hid ht
  clear ht
  go_enter Tryz.func21, Tryz.ntmps21
  go_wp2_with fail
  refine hR.out.mono ?_
  rintro e w' ⟨rfl, rfl⟩
  go_wp2_with fail
  refine hT.out.mono ?_
  rintro e w' ⟨rfl, rfl⟩
  go_wp2_with fail
  refine hN.out.mono ?_
  rintro e w1 ⟨q, g, rfl, hc, hq, hg, hw1⟩
  go_upto_region 7 with fail
  clear hmk hR hT hN
  have hM : Bk ((w1.alloc (.cells (madeCells #[.int .i64 0] zs.length) 3)).alloc (.cells #[.pointer (some ⟨q, 0, none⟩), .slice (some ⟨w1.heap.size, 0, none⟩) zs.length zs.length] 118)) (w1.heap.size + 1) 118 #[.pointer (some ⟨q, 0, none⟩), .slice (some ⟨w1.heap.size, 0, none⟩) zs.length zs.length] := by
    have := Bk.made (w1.alloc (.cells (madeCells #[.int .i64 0] zs.length) 3)) 118 #[.pointer (some ⟨q, 0, none⟩), .slice (some ⟨w1.heap.size, 0, none⟩) zs.length zs.length]
    rw [World.size_alloc] at this
    exact this
  have hS : Bk ((w1.alloc (.cells (madeCells #[.int .i64 0] zs.length) 3)).alloc (.cells #[.pointer (some ⟨q, 0, none⟩), .slice (some ⟨w1.heap.size, 0, none⟩) zs.length zs.length] 118)) w1.heap.size 3 ((List.replicate zs.length (0 : Int)).map (Value.int .i64)).toArray := by
    have := (Bk.made w1 3 (madeCells #[.int .i64 0] zs.length)).alloc (.cells #[.pointer (some ⟨q, 0, none⟩), .slice (some ⟨w1.heap.size, 0, none⟩) zs.length zs.length] 118)
    rw [made_ints] at this ⊢
    exact this
  have hC := (hc.alloc (.cells (madeCells #[.int .i64 0] zs.length) 3)).alloc (.cells #[.pointer (some ⟨q, 0, none⟩), .slice (some ⟨w1.heap.size, 0, none⟩) zs.length zs.length] 118)
  have hG : w.grownBy ((w1.alloc (.cells (madeCells #[.int .i64 0] zs.length) 3)).alloc (.cells #[.pointer (some ⟨q, 0, none⟩), .slice (some ⟨w1.heap.size, 0, none⟩) zs.length zs.length] 118)) none := grown_then (grown_then hw1 (grown_made _ _ none) (.inl rfl)) (grown_made _ _ none) (.inl rfl)
  have hs := hw1.size
  clear hc hw1
  generalize (w1.alloc (.cells (madeCells #[.int .i64 0] zs.length) 3)).alloc (.cells #[.pointer (some ⟨q, 0, none⟩), .slice (some ⟨w1.heap.size, 0, none⟩) zs.length zs.length] 118) = x at *
  obtain ⟨p, hp⟩ : ∃ p, w1.heap.size + 1 = p := ⟨_, rfl⟩
  have hps : w.heap.size ≤ p := by omega
  rw [hp] at hM ⊢
  clear hp
  generalize w1.heap.size = s at *
  have m1 := hM.cell 1
  have m1' : x.cell? ⟨p, 1, none⟩ = some (.slice (some ⟨s, 0, none⟩) zs.length zs.length) := m1
  clear m1
  have HS := Lib.hid hS
  have HA := Lib.hid (ha.grown hG)
  go_wp2_with (refine wpList_copy_only rfl (.tmp 39) (.tmp 40) 25 25 rfl 3 Tryz.underlying25 (by kernel_rfl) (some ⟨s, 0, none⟩) a zs.length zs.length zs.length c1 (by simp [Act.eval]) (by simp [Act.eval]) s 0 ((List.replicate zs.length (0 : Int)).map (Value.int .i64)) 3 HS.out (zs.map (Value.int .i64)) (by simp) (copy_src HA.out) (by simp) (ints_oneCell .i64 zs) ?_; intro x2 hx2 hg2)
  rw [splice_all _ _ (by simp)] at hx2
  have hg3 : w.grownBy x2 none := grown_then hG hg2 (.inr fun y e => by injection e with e; omega)
  have hI : Mm x2 p q g s zs (Part ys 0) := by
    rw [part_0]
    exact ⟨hM.grown hg2 (fun e => by injection e with e; exact hM.unlike hS (by decide) e), hC.kept hg2 (fun e => by injection e with e; exact hC.ptr.unlike hS (by decide) e) (fun e => by injection e with e; exact hC.row.unlike hS (by decide) e), hx2, hz, by simp [HT.out]⟩
  clear hM hS hC hG m1' HS HA hg2 hx2
  go_wp2
  go_loopw [44] (fun t wr => ∃ k : Nat, k ≤ ys.length ∧ t = .int .i64 k ∧ Mm wr p q g s zs (Part ys k) ∧ w.grownBy wr none) (fun t _ => ys.length - (intOf t).toNat)
  case atStart => exact ⟨0, Nat.zero_le _, rfl, hI, hg3⟩
  case round =>
    clear hI hg3
    obtain ⟨k, hk, rfl, hI, hgr⟩ := hrel
    have c0 := hI.c0
    by_cases hlt : k < ys.length
    · obtain ⟨b', off, rfl, hcell⟩ := (hb.grown hgr).here hlt
      have hSt := cStore hI.cel k (by rw [part_len ys k hk]; exact hlt) (nth ys k) (hy.at_ k)
      rw [part_set ys k hlt] at hSt
      have HSt := Lib.hid hSt
      clear hSt
      go_wp2_with fail
      refine HSt.out.mono ?_
      rintro e w3 ⟨rfl, hc3, ho3⟩
      have hI3 : Mm w3 p q g s zs (Part ys (k + 1)) := hI.only hc3 ho3 (by rw [part_len ys k hk, part_len ys (k + 1) (by omega)])
      have hg4 : w.grownBy w3 none := grown_then hgr ho3 (.inr fun y e => by injection e with e; omega)
      clear HSt hI hgr hc3 ho3 hcell
      go_wp2
      go_roundw
      case rel => exact ⟨k + 1, by omega, by go_num, hI3, hg4⟩
      case measure => simp [intOf]; omega
    · obtain rfl : k = ys.length := by omega
      rw [part_all] at hI
      go_wp2
      go_ret2
      exact ⟨p, q, g, s, rfl, hI, ⟨hps, hq, hg, hs⟩, hgr⟩
end
end Go.Proofs.YtpinpipjlongaaaGreat

/- The document's own answers for layer 9: all cells in a row, and where one of them stands. -/
namespace Go.Proofs.YtpinpipjlongaaaGreat
set_option maxRecDepth 100000
open Go.ChangeShapes Go.WideShapes Go.ChangeAt Go.RowKit
set_option linter.unusedVariables false

theorem celInfo : (Tryz.prog.info? 107).map (fun i => (i.zero, i.size, i.bytes)) = some (some (.agg #[.int .i64 0, .int .i64 0]), 2, 16) := by kernel_rfl
theorem celC_one (c : Nat × Nat) : ∀ u ∈ celC c, u.oneCell' = true := by
  intro u hu
  simp [celC] at hu
  rcases hu with rfl | rfl <;> rfl

/-- The value v is a slice of just these cells, in a row of its own, made since base (or nil). -/
def Cs (base : Nat) (w : World) (v : Value) (l : List (Nat × Nat)) : Prop := w.ownsRow base 107 2 v l.length (celsC l)
section
variable {base : Nat} {w w' : World} {v : Value} {l : List (Nat × Nat)}
theorem Cs.nil (base : Nat) (w : World) : Cs base w (.slice none 0 0) [] := World.ownsRow_nil _ _ _ _
theorem Cs.within {S : Nat → Prop} (h : Cs base w v l) (hk : Within w w' S) (hn : ∀ g, v.ownBlock = some g → ¬ S g) : Cs base w' v l := own_within h hk hn
theorem Cs.grown (h : Cs base w v l) (hg : w.grownBy w' none) : Cs base w' v l := own_within h (.of_grown (S := fun _ => False) hg (by simp)) (by simp)
theorem Cs.lt (h : Cs base w v l) {g : Nat} (e : v.ownBlock = some g) : base ≤ g ∧ g < w.heap.size := World.ownsRow.lt h g e
theorem Cs.only {t : TypeId} {g : Nat} {cs : Array Value} (h : Cs base w v l) (hg : Only w w' g) (hb : Bk w g t cs) (ht : t ≠ 107) : Cs base w' v l :=
  own_within h (.of_grown (S := fun b => b = g) hg (by simp)) (fun b e e2 => by
    obtain ⟨cs', hcs⟩ := own_bk h e
    subst e2
    exact hb.unlike hcs ht rfl)
theorem Cs.is (h : Cs base w v l) : ∃ a cap, v = .slice a l.length cap ∧ l.length ≤ cap ∧ cap ≤ maxLen ∧ (0 < l.length → ∃ g, a = some ⟨g, 0, none⟩ ∧ v.ownBlock = some g ∧ base ≤ g ∧ g < w.heap.size ∧ (∀ i, w.frozen? ⟨g, i, none⟩ = false) ∧ ∀ i c, l[i]? = some c → w.cell? ⟨g, i * 2, none⟩ = some (.int .i64 c.1) ∧ w.cell? ⟨g, i * 2 + 1, none⟩ = some (.int .i64 c.2)) := by
  obtain ⟨a, cap, e, h1, h2, h3⟩ := own_is h
  refine ⟨a, cap, e, h1, h2, fun h0 => ?_⟩
  obtain ⟨g, e1, e2, e3, e4, e5, e6⟩ := h3 h0
  refine ⟨g, e1, e2, e3, e4, e5, fun i c hi => ?_⟩
  have hlt : i < l.length := (List.getElem?_eq_some_iff.1 hi).1
  obtain ⟨q1, q2⟩ := celsC_at l i c hi
  rw [e6 _ (by omega), e6 _ (by omega), q1, q2]
  exact ⟨rfl, rfl⟩
end

/-- What Cells returns. -/
def CellsPost (w : World) (zs : List Int) (e : Ending) (w' : World) : Prop :=
  w.grownBy w' none ∧ ((RightZ zs ∧ ∃ v, e = .returned (.tuple #[v, .bool (decide ((tot zs : Int) ≤ 8192))]) ∧ Cs w.heap.size w' v (cels zs)) ∨ (¬ RightZ zs ∧ e = .returned (.tuple #[.slice none 0 0, .bool false])))

theorem pre_few {zs : List Int} : ∀ k, (∀ i, i < k → 0 ≤ nth zs i ∧ nth zs i ≤ 4096) → pre zs k ≤ 4096 * k
  | 0, _ => Nat.le_refl _
  | k + 1, h => by
    have h1 := pre_few k fun i hi => h i (by omega)
    have h2 := h k (by omega)
    rw [pre_succ]; unfold sz; omega

theorem cs_next {w wr : World} {o : Value} {zs : List Int} {k i : Nat} (ho : Cs w.heap.size wr o (celPart zs k i)) (hg : w.grownBy wr none) (w' : World) (v' : Value) (h1 : w'.ownsRow w.heap.size 107 2 v' ((celPart zs k i).length + 1) (celsC (celPart zs k i) ++ celC (k, i)))
    (h2 : (wr.alloc (.cells #[.int .i64 k, .int .i64 i] 107)).grownBy w' o.ownBlock) : Cs w.heap.size w' v' (celPart zs k (i + 1)) ∧ w.grownBy w' none := by
  constructor
  · unfold Cs
    rw [celPart_next, celsC_snoc, List.length_append]
    exact h1
  · exact grown_then (grown_then hg (grown_made _ _ none) (.inl rfl)) h2 (.inr fun x e => (ho.lt e).1)

set_option maxHeartbeats 1000000 in
theorem rCells {w : World} {a : Option Addr} {zs : List Int} (h : Given .i64 w a zs) (hm : zs.length ≤ maxLen) (cap : Nat) :
    Calls Tryz.prog 16 #[.slice a zs.length cap] w (CellsPost w zs) := by
  unfold maxLen at hm
  by_cases h8 : 8 < zs.length
  · go_enter Tryz.func16, Tryz.ntmps16
    go_wp2
    go_ret2
    exact ⟨grown_refl _ _, .inr ⟨fun hz => by have := hz.1; omega, rfl⟩⟩
  go_enter Tryz.func16, Tryz.ntmps16
  go_wp2
  go_loopw [4, 13] (fun o t wr => ∃ k : Nat, k ≤ zs.length ∧ t = .int .i64 k ∧ Hid (∀ i, i < k → 0 ≤ nth zs i ∧ nth zs i ≤ 4096) ∧ Cs w.heap.size wr o (celTo zs k) ∧ w.grownBy wr none) (fun _ t _ => zs.length - (intOf t).toNat)
  case atStart => exact ⟨0, Nat.zero_le _, rfl, Lib.hid (fun i hi => by omega), Cs.nil _ _, grown_refl _ _⟩
  case round =>
    obtain ⟨k, hk, rfl, HA, ho, hg⟩ := hrel
    by_cases hlt : k < zs.length
    · obtain ⟨b, off, rfl, hc⟩ := (h.grown hg).here hlt
      rcases (show nth zs k < 0 ∨ (0 ≤ nth zs k ∧ 4096 < nth zs k) ∨ (0 ≤ nth zs k ∧ nth zs k ≤ 4096) by omega) with h1 | h1 | h1
      · go_wp2
        go_ret2
        exact ⟨hg, .inr ⟨fun hz => by have := hz.2 k hlt; omega, rfl⟩⟩
      · go_wp2
        go_ret2
        exact ⟨hg, .inr ⟨fun hz => by have := hz.2 k hlt; omega, rfl⟩⟩
      · obtain ⟨n, hn⟩ : ∃ n, sz zs k = n := ⟨_, rfl⟩
        have hzn : nth zs k = (n : Int) := by unfold sz at hn; omega
        have hn4 : n ≤ 4096 := by omega
        rw [hzn] at hc
        have HZ := Lib.hid hzn
        have HN := Lib.hid hn
        have hpk := pre_few k HA.out
        have HP : Hid (pre zs k ≤ 40000) := Lib.hid (by omega)
        rw [← celPart_0] at ho
        clear h1 hzn hn hpk
        go_wp2
        go_loopw [4, 7] (fun o t wr => ∃ i : Nat, i ≤ n ∧ t = .int .i64 i ∧ Cs w.heap.size wr o (celPart zs k i) ∧ w.grownBy wr none) (fun _ t _ => n - (intOf t).toNat)
        case atStart => exact ⟨0, Nat.zero_le _, rfl, ho, hg⟩
        case round =>
          clear ho hg hc
          obtain ⟨i, hi, rfl, ho, hg⟩ := hrel
          by_cases hin : i < n
          · have HO := Lib.hid (World.ownsRow.alloc ho (.cells #[.int .i64 k, .int .i64 i] 107))
            have HNW : Hid (∀ (j : Nat) (u : Value), (celC (k, i))[j]? = some u → (wr.alloc (.cells #[.int .i64 k, .int .i64 i] 107)).cell? ((⟨wr.heap.size, 0, none⟩ : Addr).add j) = some u) := Lib.hid (news_bk (Bk.made wr 107 #[.int .i64 k, .int .i64 i]))
            have HBS : Hid (w.heap.size ≤ (wr.alloc (.cells #[.int .i64 k, .int .i64 i] 107)).heap.size) := Lib.hid (by rw [World.size_alloc]; have := hg.size; omega)
            have HL : Hid ((celPart zs k i).length < 100000) := Lib.hid (by rw [celPart_len]; have := HP.out; omega)
            have HEND := Lib.hid (cs_next (k := k) (i := i) ho hg)
            clear ho hg
            go_wp2_with (at_builtin; refine wpOwn rfl _ _ 59 rfl _ 16 Tryz.underlying59 celInfo rfl (by omega) (by omega) HO.out rfl (celC (k, i)) rfl (celC_one _) wr.heap.size rfl HNW.out HL.out HBS.out ?_; intro v' w' hown hgr hloc)
            obtain ⟨s1, s2⟩ := HEND.out _ _ hown hgr
            go_roundw
            case rel => exact ⟨i + 1, by omega, by go_num, s1, s2⟩
            case measure => simp [intOf]; omega
          · obtain rfl : i = n := by omega
            rw [← HN.out, celPart_all] at ho
            go_wp2
            go_roundw
            case rel =>
              refine ⟨k + 1, by omega, by go_num, Lib.hid fun j hj => ?_, ho, hg⟩
              by_cases e : j = k
              · subst e; have := HZ.out; omega
              · exact HA.out j (by omega)
            case measure => simp [intOf]; omega
    · obtain rfl : k = zs.length := by omega
      have hz : RightZ zs := ⟨by omega, HA.out⟩
      obtain ⟨oa, oc, rfl, _, hoc, _⟩ := ho.is
      rw [show celTo zs zs.length = cels zs from rfl, cels_len] at *
      have ht := tot_le hz
      go_wp2
      go_ret2
      exact ⟨hg, .inl ⟨hz, _, rfl, ho⟩⟩

section
variable {base : Nat} {w : World} {v : Value} {zs : List Int}
set_option maxHeartbeats 400000 in
/-- Where a cell stands. -/
theorem rFind (h : Cs base w v (cels zs)) (hz : RightZ zs) (A P : Nat) (x : Int) (h0 : 0 ≤ x) (h1 : x < 4294967296) (hA : A < zs.length) (hP : P < sz zs A) (hx : x % 4096 = P) :
    Calls Tryz.prog 34 #[v, .int .i64 A, .int .u32 x] w fun e w' => e = .returned (.int .i64 ((pre zs A + P : Nat) : Int)) ∧ w.grownBy w' none := by
  obtain ⟨a, cap, rfl, hlc, hcm, hat⟩ := h.is
  have hlt := pre_lt hA hP
  rw [cels_len] at *
  obtain ⟨g, rfl, _, _, hgl, hfr, hcl⟩ := hat (by omega)
  have ht := tot_le hz
  go_enter Tryz.func34, Tryz.ntmps34
  go_wp2
  go_loopw [11] (fun t wr => ∃ k : Nat, k ≤ pre zs A + P ∧ t = .int .i64 k ∧ w.grownBy wr none) (fun t _ => tot zs - (intOf t).toNat)
  case atStart => exact ⟨0, Nat.zero_le _, rfl, grown_refl _ _⟩
  case round =>
    obtain ⟨k, hk, rfl, hg⟩ := hrel
    obtain ⟨ca, cp, q1, q2, q3⟩ := tot_split (zs := zs) (i := k) (by omega)
    obtain ⟨c1, c2⟩ := hcl k (ca, cp) (by rw [q3]; exact cels_at q1 q2)
    have d1 := ((below_of_grown hg).cell (p := ⟨g, k * 2, none⟩) hgl).trans c1
    have d2 := ((below_of_grown hg).cell (p := ⟨g, k * 2 + 1, none⟩) hgl).trans c2
    simp only at d1 d2
    have hkt : k < tot zs := by omega
    have HQ := Lib.hid q3
    clear q3 hcl hat
    have hgn : w.grownBy (wr.alloc (.cells #[.int .i64 ca, .int .i64 cp] 107)) none := grown_then hg (grown_made _ _ none) (.inl rfl)
    by_cases e : ca = A
    · subst e
      by_cases e2 : cp = P
      · subst e2
        have t2 : ((cp : Int) == x % 4096) = true := by simp; omega
        go_wp2
        go_ret
        exact ⟨ret_int (by have := HQ.out; omega), hgn⟩
      · have t2 : ((cp : Int) == x % 4096) = false := by simp; omega
        go_wp2
        go_roundw
        case rel => exact ⟨k + 1, by have := HQ.out; omega, by go_num, hgn⟩
        case measure => simp [intOf]; omega
    · have t1 : ((ca : Int) == (A : Int)) = false := by simp; omega
      have hne : k ≠ pre zs A + P := fun e3 => by
        have u1 := cels_at q1 q2
        have u2 := cels_at hA hP
        rw [← HQ.out, e3, u2] at u1
        simp at u1
        exact e u1.1.symm
      go_wp2
      go_roundw
      case rel => exact ⟨k + 1, by omega, by go_num, hgn⟩
      case measure => simp [intOf]; omega

set_option maxHeartbeats 400000 in
/-- No cell is that. -/
theorem rFindNo (h : Cs base w v (cels zs)) (hz : RightZ zs) (area x : Int) (h0 : 0 ≤ x) (h1 : x < 4294967296) (hno : area < 0 ∨ (zs.length : Int) ≤ area ∨ (sz zs area.toNat : Int) ≤ x % 4096) :
    Calls Tryz.prog 34 #[v, .int .i64 area, .int .u32 x] w fun e w' => e = .returned (.int .i64 (-1)) ∧ w.grownBy w' none := by
  obtain ⟨a, cap, rfl, hlc, hcm, hat⟩ := h.is
  rw [cels_len] at *
  have ht := tot_le hz
  have HNO := Lib.hid hno
  clear hno
  go_enter Tryz.func34, Tryz.ntmps34
  go_wp2
  go_loopw [11] (fun t wr => ∃ k : Nat, k ≤ tot zs ∧ t = .int .i64 k ∧ w.grownBy wr none) (fun t _ => tot zs - (intOf t).toNat)
  case atStart => exact ⟨0, Nat.zero_le _, rfl, grown_refl _ _⟩
  case round =>
    obtain ⟨k, hk, rfl, hg⟩ := hrel
    by_cases hkt : k < tot zs
    · obtain ⟨g, rfl, _, _, hgl, hfr, hcl⟩ := hat (by omega)
      obtain ⟨ca, cp, q1, q2, q3⟩ := tot_split hkt
      obtain ⟨c1, c2⟩ := hcl k (ca, cp) (by rw [q3]; exact cels_at q1 q2)
      have d1 := ((below_of_grown hg).cell (p := ⟨g, k * 2, none⟩) hgl).trans c1
      have d2 := ((below_of_grown hg).cell (p := ⟨g, k * 2 + 1, none⟩) hgl).trans c2
      simp only at d1 d2
      clear q3 hcl hat
      have hgn : w.grownBy (wr.alloc (.cells #[.int .i64 ca, .int .i64 cp] 107)) none := grown_then hg (grown_made _ _ none) (.inl rfl)
      by_cases e : (ca : Int) = area
      · subst e
        have t2 : ((cp : Int) == x % 4096) = false := by
          have := HNO.out
          rw [Int.toNat_natCast] at this
          simp
          omega
        go_wp2
        go_roundw
        case rel => exact ⟨k + 1, by omega, by go_num, hgn⟩
        case measure => simp [intOf]; omega
      · have t1 : ((ca : Int) == area) = false := by simpa using e
        go_wp2
        go_roundw
        case rel => exact ⟨k + 1, by omega, by go_num, hgn⟩
        case measure => simp [intOf]; omega
    · obtain rfl : k = tot zs := by omega
      go_wp2
      go_ret
      exact ⟨rfl, hg⟩
end
end Go.Proofs.YtpinpipjlongaaaGreat

/- The document's own pool: Is, Many, Take. -/
namespace Go.Proofs.YtpinpipjlongaaaGreat
set_option maxRecDepth 100000
open Go.ChangeShapes Go.WideShapes Go.ChangeAt Go.RowKit
section
variable {w w' : World} {x n each N : Nat} {R : RM} {free : Nat → List Nat} {gen out : List Int}

theorem rfIs (h : Rf w x n each R free gen out) (hlG : gen.length = N) (hlO : out.length = N) (hN : N ≤ 512) (hg : ∀ q, 0 ≤ nth gen q ∧ nth gen q < 262144) (ho : ∀ q, nth out q = 0 ∨ nth out q = 1) (y : Int) (y0 : 0 ≤ y) (y1 : y < 4294967296) :
    Calls Tryz.prog 59 #[.pointer (some ⟨x, 0, none⟩), .int .u32 y] w fun e w' => e = .returned (.bool (isO N gen out y)) ∧ w = w' := by
  have c3 := h.c3
  obtain ⟨a, cap, e, h1, h2, h3⟩ := h.ovIs
  rw [hlO] at e h1 h3
  rw [e] at c3
  clear e
  by_cases hA : y % 4096 < 1
  · have e : isO N gen out y = false := by unfold isO; rw [decide_eq_false]; omega
    rw [e]
    clear e h3
    go_enter Tryz.func59, Tryz.ntmps59
    go_wp2_with fail
    refine (rIndex y y0 y1 _).mono ?_
    rintro e w' ⟨rfl, rfl⟩
    go_wp2
    go_ret
    exact ⟨rfl, rfl⟩
  · have hA' : 1 ≤ y % 4096 := by omega
    clear hA
    by_cases hB : (N : Int) < y % 4096
    · have e : isO N gen out y = false := by unfold isO; rw [decide_eq_false]; omega
      rw [e]
      clear e h3
      go_enter Tryz.func59, Tryz.ntmps59
      go_wp2_with fail
      refine (rIndex y y0 y1 _).mono ?_
      rintro e w' ⟨rfl, rfl⟩
      go_wp2
      go_ret
      exact ⟨rfl, rfl⟩
    · obtain ⟨q, hq⟩ := Int.eq_ofNat_of_zero_le (show 0 ≤ y % 4096 - 1 by omega)
      have hqN : q < N := by omega
      have eI : isO N gen out y = decide (nth out q = 1 ∧ hdl gen q = y) := by
        unfold isO; rw [hq, Int.toNat_natCast, Bool.eq_iff_iff]; simp; omega
      rw [eI]
      have HQ := Lib.hid hq
      clear eI hq
      obtain ⟨g, rfl, _, hf, hc⟩ := h3 (by omega)
      have hcq := hc q hqN
      have hI : Calls Tryz.prog 60 #[.int .u32 y] w fun e w' => e = .returned (.int .i64 ((q : Int) + 1)) ∧ w = w' := by
        have := rIndex y y0 y1 w
        rw [show y % 4096 = (q : Int) + 1 by have := HQ.out; omega] at this
        exact this
      have b1 : (q : Int) < N := by omega
      have b2 : (q : Int) + 1 ≤ N := by omega
      clear hc h3 hf hA' hB
      rcases ho q with h0 | h0
      · rw [h0] at hcq
        have e : decide (nth out q = 1 ∧ hdl gen q = y) = false := by rw [decide_eq_false]; omega
        rw [e]
        clear e h0
        go_enter Tryz.func59, Tryz.ntmps59
        go_wp2_with fail
        refine hI.mono ?_
        clear hI
        rintro e w' ⟨rfl, rfl⟩
        go_wp2
        go_ret
        exact ⟨rfl, rfl⟩
      · rw [h0] at hcq
        have e : decide (nth out q = 1 ∧ hdl gen q = y) = (hdl gen q == y) := by rw [Bool.eq_iff_iff]; simp [h0]
        rw [e]
        clear e h0
        have hH := rfHandle h (by omega) (q := q) (by omega) (hg q)
        go_enter Tryz.func59, Tryz.ntmps59
        go_wp2_with fail
        refine hI.mono ?_
        clear hI
        rintro e w' ⟨rfl, rfl⟩
        go_wp2_with fail
        refine hH.mono ?_
        clear hH
        rintro e w' ⟨rfl, rfl⟩
        go_wp2
        go_ret
        exact ⟨rfl, rfl⟩

theorem rfMany (h : Rf w x n each R free gen out) (h64 : n ≤ 64) (h8 : each ≤ 8) (t : Nat) (ht : t < n) (hl : (free t).length ≤ each) :
    Calls Tryz.prog 39 #[.pointer (some ⟨x, 0, none⟩), .int .i64 t] w fun e w' => e = .returned (.int .i64 ((each - (free t).length : Nat) : Int)) ∧ ∃ m, w' = w.drewN m := by
  have c0 := h.c0
  have c1 := h.c1
  obtain ⟨g, cap, e, h1, h2, hf, hc⟩ := h.fvIs (by omega)
  rw [e] at c1
  have hct := hc t ht
  clear hc e
  have hlen : (ones (free t)).length = (free t).length := by simp [ones]
  obtain ⟨A, B, hv⟩ : ∃ A B, R.vs t = .slice A (free t).length B := by
    rcases h.frees t ht with ⟨e1, e2⟩ | ⟨g', off, cap', cs, e1, _⟩
    · have : (free t).length = 0 := by rw [← hlen, e2]; rfl
      rw [this]; exact ⟨_, _, e1⟩
    · rw [hlen] at e1; exact ⟨_, _, e1⟩
  rw [hv] at hct
  clear hlen hv
  go_enter Tryz.func39, Tryz.ntmps39
  go_wp2
  go_quiet (fail)
  go_wp2
  go_ret
  exact ⟨ret_int (by omega), _, rfl⟩

theorem rfTakeNone (h : Rf w x n each R free gen out) (h64 : n ≤ 64) (t : Nat) (ht : t < n) (he : free t = []) :
    Calls Tryz.prog 32 #[.pointer (some ⟨x, 0, none⟩), .int .i64 t] w fun e w' => e = .returned (.tuple #[.int .u32 0, .int .i64 0]) ∧ w = w' := by
  have c1 := h.c1
  obtain ⟨g, cap, e, h1, h2, hf, hc⟩ := h.fvIs (by omega)
  rw [e] at c1
  have hct := hc t ht
  clear hc e
  obtain ⟨A, B, hv⟩ : ∃ A B, R.vs t = .slice A 0 B := by
    have hF := h.frees t ht
    rw [he] at hF
    rcases hF with ⟨e1, e2⟩ | ⟨g', off, cap', cs, e1, _⟩
    · exact ⟨_, _, e1⟩
    · exact ⟨_, _, e1⟩
  rw [hv] at hct
  go_enter Tryz.func32, Tryz.ntmps32
  go_wp2
  go_ret2
  exact ⟨rfl, rfl⟩
end
end Go.Proofs.YtpinpipjlongaaaGreat

/- slices.Clone of instructions, asm.Copy. -/
namespace Go.Proofs.YtpinpipjlongaaaGreat
open Go.ChangeShapes Go.WideShapes Go.ChangeAt Go.RowKit
set_option linter.unusedVariables false

theorem progC_one (l : List Ins) : ∀ u ∈ progC l, u.oneCell' = true := by
  intro u hu
  unfold progC at hu
  rw [List.mem_flatMap] at hu
  obtain ⟨i, _, hi⟩ := hu
  exact insC_one i u hi
theorem sli_news {w : World} {b off : Nat} {l : List Ins} (h : ∀ k i, l[k]? = some i → ∀ j, j < 8 → w.cell? ⟨b, off + k * 8 + j, none⟩ = (insC i)[j]?) : ∀ (j : Nat) (u : Value), (progC l)[j]? = some u → w.cell? ((⟨b, off, none⟩ : Addr).add j) = some u := by
  intro j u hj
  have ea : (⟨b, off, none⟩ : Addr).add j = ⟨b, off + j, none⟩ := by unfold Addr.add; split <;> simp_all
  have hjl := (List.getElem?_eq_some_iff.1 hj).1
  rw [progC_len] at hjl
  have hk : j / 8 < l.length := by omega
  have hm : j / 8 * 8 + j % 8 = j := by omega
  have h1 := h (j / 8) l[j / 8] (List.getElem?_eq_getElem hk) (j % 8) (by omega)
  rw [← progC_at (List.getElem?_eq_getElem hk) (by omega : j % 8 < 8), hm, hj, Nat.add_assoc, hm] at h1
  rw [ea]
  exact h1

/-- What Clone leaves. -/
def Cloned (w : World) (l : List Ins) (e : Ending) (w' : World) : Prop := ∃ v', e = .returned v' ∧ w'.ownsRow w.heap.size 45 8 v' l.length (progC l) ∧ Below w.heap.size w w'
theorem run_nilEq (a : Option Addr) (n c : Nat) (w : World) : (binOp .eql 22 (.slice a n c) (.slice none 0 0)).run Tryz.prog w = .ok (.bool a.isNone) w := by
  simp [binOp, run_equal_slice_nil w 22 45 a n c Tryz.underlying22, Result.andThen]
set_option maxHeartbeats 1000000 in
theorem lClone (l : List Ins) (a : Option Addr) (ca : Nat) (w : World) (hn : a = none → ca = 0) (ha : Sli w a l) (hl : l.length ≤ 1000) :
    Calls Tryz.prog 49 #[.slice a l.length ca] w (Cloned w l) := by
  have hq := run_nilEq a l.length ca
  cases a with
  | none =>
    have h0 : l = [] := by
      cases l with
      | nil => rfl
      | cons i l => obtain ⟨b, off, e, _⟩ := ha (by simp); cases e
    subst h0
    obtain rfl := hn rfl
    clear ha
    replace hq : ∀ w, (binOp .eql 22 (.slice none 0 0) (.slice none 0 0)).run Tryz.prog w = .ok (.bool true) w := hq
    go_enter Tryz.func49, Tryz.ntmps49
    go_wp2
    go_ret
    exact ⟨_, rfl, World.ownsRow_nil _ _ _ _, Below.refl _ _⟩
  | some ad =>
    replace hq : ∀ w, (binOp .eql 22 (.slice (some ad) l.length ca) (.slice none 0 0)).run Tryz.prog w = .ok (.bool false) w := hq
    go_enter Tryz.func49, Tryz.ntmps49
    have hB : Hid (Bk (w.alloc (.cells #[] 45)) w.heap.size 45 #[]) := Lib.hid (Bk.made w _ _)
    have HO : Hid ((w.alloc (.cells #[] 45)).ownsRow w.heap.size 45 8 (.slice (some ⟨w.heap.size, 0, none⟩) 0 0) 0 []) := Lib.hid ⟨rfl, .inr ⟨w.heap.size, 0, #[], rfl, Nat.le_refl _, hB.out, Nat.le_refl _, by simp, rfl, rfl⟩⟩
    have HN : Hid (∀ (j : Nat) (u : Value), (progC l)[j]? = some u → (w.alloc (.cells #[] 45)).cell? (ad.add j) = some u) := Lib.hid fun j u hj => by
      have hjl := (List.getElem?_eq_some_iff.1 hj).1
      rw [progC_len] at hjl
      obtain ⟨b, off, e, hlt, hc⟩ := ha (by omega)
      injection e with e
      subst e
      exact sli_news (w := w.alloc _) (fun k i hk j hj => (World.cell?_of_block (Below.heap_alloc w _ b hlt)).trans (hc k i hk j hj)) j u hj
    obtain ⟨i0, hi0, hz0, hz1, hz2⟩ := info_parts insInfo
    have HI := Lib.hid (And.intro hi0 (And.intro hz0 (And.intro hz1 hz2)))
    clear hi0 hz0 hz1 hz2 ha hB
    go_wp2_with (at_builtin; refine wpList_append_own_at _ rfl _ _ 22 rfl w.heap.size 45 i0 _ 8 64 Tryz.underlying22 HI.out.1 HI.out.2.1 HI.out.2.2.1 HI.out.2.2.2 rfl (by omega) _ 0 [] rfl HO.out ad l.length ca (progC l) rfl (by rw [progC_len]) HN.out (progC_one l) (by simp only [maxLen]; omega) (by omega) (by simp) ?_; intro v' w' hown hgr _ hloc)
    go_ret
    refine ⟨v', rfl, by simpa using hown, ?_⟩
    exact Below.grown ((Below.refl _ _).alloc (Nat.le_refl _) _) hgr (by simp) (fun j hj => by cases hj; exact Nat.le_refl _)

set_option maxHeartbeats 1000000 in
theorem cCopy (c : Prg) (v : Value) (w : World) (hv : Pv w v c) (hl : c.l.length ≤ 1000) :
    Calls Tryz.prog 23 #[v] w fun e w' => ∃ v', e = .returned v' ∧ Pg w' w.heap.size v' c ∧ Below w.heap.size w w' := by
  obtain ⟨a, ca, rfl, hc1, hc2, hn, ha⟩ := hv
  obtain ⟨l, lo, un⟩ := c
  simp only at hl hc1 ha ⊢
  obtain ⟨b0, k1, k2⟩ := two_boxes w 24 #[.slice a l.length ca, .int .i64 lo, .int .i64 un] #[.slice none 0 0, .int .i64 0, .int .i64 0]
  go_enter Tryz.func23, Tryz.ntmps23
  go_upto_region 1 with fail
  generalize (w.alloc (.cells #[.slice a l.length ca, .int .i64 lo, .int .i64 un] 24)).alloc (.cells #[.slice none 0 0, .int .i64 0, .int .i64 0] 24) = x at *
  have x0 : x.cell? ⟨w.heap.size, 0, none⟩ = some (.slice a l.length ca) := k1.cell 0
  have HC := Lib.hid (lClone l a ca x hn (ha.below b0) hl)
  go_wp2_with fail
  refine HC.out.mono ?_
  rintro e y ⟨v', rfl, hown, hy⟩
  replace k1 : Bk y _ _ _ := (hy.block _ k1.lt).trans k1
  replace k2 : Bk y _ _ _ := (hy.block _ k2.lt).trans k2
  have hxs := b0.size
  replace b0 := b0.trans (hy.mono b0.size)
  obtain ⟨a2, cap2, rfl, hcap2, hmax2, _⟩ := own_is hown
  clear x0 HC
  have x0 : y.cell? ⟨w.heap.size, 0, none⟩ = some (.slice a l.length ca) := k1.cell 0
  have xf := k1.free 0
  go_upto_region 2 with fail
  have hne : ∀ g, (Value.slice a2 l.length cap2).ownBlock = some g → g ≠ w.heap.size ∧ g ≠ w.heap.size + 1 := fun g hg => by
    obtain ⟨cs, hcs⟩ := own_bk hown hg
    exact ⟨fun e => Bk.unlike hcs k1 (by decide) e, fun e => Bk.unlike hcs k2 (by decide) e⟩
  have o1 := own_within hown ((Within.refl y (fun b => b = w.heap.size)).put w.heap.size 0 (.slice a2 l.length cap2) (.inl rfl)) (fun g hg e => (hne g hg).1 e)
  replace k2 := k2.off (p := ⟨w.heap.size, 0, none⟩) (by show w.heap.size + 1 ≠ w.heap.size; omega) (.slice a2 l.length cap2)
  replace k1 : Bk (y.setCell ⟨w.heap.size, 0, none⟩ (.slice a2 l.length cap2)) w.heap.size 24 #[.slice a2 l.length cap2, .int .i64 lo, .int .i64 un] := k1.put 0 _
  replace b0 := b0.setCell (p := ⟨w.heap.size, 0, none⟩) (Nat.le_refl _) (.slice a2 l.length cap2)
  clear hown x0 xf
  generalize y.setCell ⟨w.heap.size, 0, none⟩ (.slice a2 l.length cap2) = y at *
  obtain ⟨x0, x1, x2⟩ : y.cell? ⟨w.heap.size, 0, none⟩ = some (.slice a2 l.length cap2) ∧ y.cell? ⟨w.heap.size, 1, none⟩ = some (.int .i64 lo) ∧ y.cell? ⟨w.heap.size, 2, none⟩ = some (.int .i64 un) := ⟨k1.cell 0, k1.cell 1, k1.cell 2⟩
  obtain ⟨z0, z1, z2⟩ : y.cell? ⟨w.heap.size + 1, 0, none⟩ = some (.slice none 0 0) ∧ y.cell? ⟨w.heap.size + 1, 1, none⟩ = some (.int .i64 0) ∧ y.cell? ⟨w.heap.size + 1, 2, none⟩ = some (.int .i64 0) := ⟨k2.cell 0, k2.cell 1, k2.cell 2⟩
  have zf := k2.free
  go_wp2
  have h9 := put3_bk k2 (.slice a2 l.length cap2) (.int .i64 lo) (.int .i64 un)
  have b9 := put3_below b0 (by show w.heap.size ≤ w.heap.size + 1; omega) (.slice a2 l.length cap2) (.int .i64 lo) (.int .i64 un)
  have o9 : (put3 y (w.heap.size + 1) (.slice a2 l.length cap2) (.int .i64 lo) (.int .i64 un)).ownsRow x.heap.size 45 8 (.slice a2 l.length cap2) l.length (progC l) := own_within o1 ((((Within.refl y (fun b => b = w.heap.size + 1)).put (w.heap.size + 1) 0 (.slice a2 l.length cap2) (.inl rfl)).put (w.heap.size + 1) 1 (.int .i64 lo) (.inl rfl)).put (w.heap.size + 1) 2 (.int .i64 un) (.inl rfl)) (fun b e e2 => (hne b e).2 e2)
  replace o9 := World.ownsRow.mono (base' := w.heap.size) o9 hxs
  generalize hv9 : (((y.setCell ⟨w.heap.size + 1, 0, none⟩ (.slice a2 l.length cap2)).setCell ⟨w.heap.size + 1, 1, none⟩ (.int .i64 lo)).setCell ⟨w.heap.size + 1, 2, none⟩ (.int .i64 un)) = v9
  replace hv9 : put3 y (w.heap.size + 1) (.slice a2 l.length cap2) (.int .i64 lo) (.int .i64 un) = v9 := hv9
  rw [hv9] at h9 b9 o9
  obtain ⟨q0, q1, q2⟩ : v9.cell? ⟨w.heap.size + 1, 0, none⟩ = some (.slice a2 l.length cap2) ∧ v9.cell? ⟨w.heap.size + 1, 1, none⟩ = some (.int .i64 lo) ∧ v9.cell? ⟨w.heap.size + 1, 2, none⟩ = some (.int .i64 un) := ⟨h9.cell 0, h9.cell 1, h9.cell 2⟩
  refine bodyPost_ret (v := .agg #[.slice a2 l.length cap2, .int .i64 lo, .int .i64 un]) (by simp [results, Tryz.results23, go_sem, q0, q1, q2]) rfl ⟨.agg #[.slice a2 l.length cap2, .int .i64 lo, .int .i64 un], rfl, ⟨_, rfl, o9⟩, b9⟩
end Go.Proofs.YtpinpipjlongaaaGreat

/- The document's own pool: Take and Back, where they go well. -/
namespace Go.Proofs.YtpinpipjlongaaaGreat
set_option maxRecDepth 100000
open Go.ChangeShapes Go.WideShapes Go.ChangeAt Go.RowKit
section
variable {w w' : World} {x n each N : Nat} {R : RM} {free : Nat → List Nat} {gen out : List Int}

/-- Behind a call: only what is the pool's has changed; what is the pool's now was so, or is new. -/
def RStays (w : World) (n : Nat) (R : RM) (w' : World) (R' : RM) : Prop := Within w w' (R.Has n) ∧ ∀ i, R'.Has n i → R.Has n i ∨ w.heap.size ≤ i
theorem RStays.refl (w : World) (n : Nat) (R : RM) : RStays w n R w R := ⟨Within.refl _ _, fun _ h => .inl h⟩
theorem RStays.draws {R' : RM} (h : RStays w n R w' R') (m : Nat) : RStays w n R (w'.drewN m) R' := ⟨h.1.draws m, h.2⟩
theorem RStays.then_ {w'' : World} {R' R'' : RM} (h : RStays w n R w' R') (k : RStays w' n R' w'' R'') : RStays w n R w'' R'' :=
  ⟨h.1.then_ k.1 h.2, fun i hi => by
    rcases k.2 i hi with e | e
    · exact h.2 i e
    · exact .inr (Nat.le_trans h.1.size e)⟩

theorem map_upd (vs : Nat → Value) (n t : Nat) (u : Value) : ((List.range n).map vs).set t u = (List.range n).map (upd vs t u) := by
  apply List.ext_getElem?
  intro i
  simp only [List.getElem?_set, List.length_map, List.length_range, List.getElem?_map]
  by_cases hi : i < n
  · rw [List.getElem?_range hi]
    by_cases e : t = i
    · subst e; simp [hi, upd_same]
    · simp [e, upd_other (f := vs) (v := u) (fun h : i = t => e h.symm)]
  · rw [List.getElem?_eq_none (by simpa using hi)]
    simp; omega

/-- A thread's list is another: its row may have changed, or it lies in a new one. -/
theorem Rf.setV {w1 : World} (h : Rf w x n each R free gen out) {t : Nat} (ht : t < n) {F cap : Nat} (e : R.fv = .slice (some ⟨F, 0, none⟩) n cap) (hg : w.grownBy w1 (R.vs t).ownBlock) {u : Value} {l : List Nat} (hu : Fs w1 u (ones l))
    (hb : u.ownBlock = (R.vs t).ownBlock ∨ ∀ g, u.ownBlock = some g → w.heap.size ≤ g) :
    Rf (w1.setCell ⟨F, t, none⟩ u) x n each { R with vs := upd R.vs t u } (upd free t l) gen out := by
  have hF : R.fv.ownBlock = some F := by rw [e]; rfl
  obtain ⟨cF, bF⟩ := h.row.bk hF
  have hk1 : Within w w1 (fun i => (R.vs t).ownBlock = some i) := .of_grown hg (fun i e => .inl e)
  have hvt : ∀ g, (R.vs t).ownBlock = some g → ∃ cs, Bk w g 3 cs := fun g eg => (h.frees t ht).bk eg
  have bF1 := bF.within hk1 (fun e' => by obtain ⟨cs, hc⟩ := hvt F e'; exact Bk.unlike hc bF (by decide) rfl)
  have hk : Within w1 (w1.setCell ⟨F, t, none⟩ u) (fun i => i = F) := (Within.refl w1 _).put F _ _ (.inl rfl)
  have hkk : Within w (w1.setCell ⟨F, t, none⟩ u) (fun i => (R.vs t).ownBlock = some i ∨ i = F) := (hk1.wide (fun i e _ => .inl e)).then_ hk (fun i e => .inl (.inr e))
  have hint : ∀ {g : Nat} {cs : Array Value}, Bk w g 3 cs → ¬ g = F := fun hb' e => Bk.unlike hb' bF (by decide) e
  have hnew : ∀ g, w.heap.size ≤ g → ¬ R.Has n g := fun g hg e' => by have := h.lt e'; omega
  refine ⟨h.ptr.within hkk ?_, ?_, h.gens.within hkk ?_, h.outs.within hkk ?_, fun s hs => ?_, h.go, fun s g hs eg => ?_, fun s g hs eg => ?_, fun s s' g hs hs' hne eg => ?_⟩
  · rintro (e' | e')
    · obtain ⟨cs, hc⟩ := hvt _ e'; exact Bk.unlike h.ptr hc (by decide) rfl
    · exact Bk.unlike h.ptr bF (by decide) e'
  · have hr := h.row.within hk1 (fun g eg e' => by
      obtain ⟨cs, hc⟩ := hvt g e'
      obtain ⟨cs', hc'⟩ := h.row.bk eg
      exact Bk.unlike hc hc' (by decide) rfl)
    rw [e] at hr
    have hlen : ((List.range n).map R.vs).length = n := by simp
    have : Vls 25 w1 (.slice (some ⟨F, 0, none⟩) ((List.range n).map R.vs).length cap) ((List.range n).map R.vs) := by rw [hlen]; exact hr
    have h2 := this.put t u
    rw [map_upd, hlen] at h2
    show Vls _ _ R.fv _
    rw [e]
    exact h2
  · rintro g eg (e' | e')
    · exact h.vg t g ht e' eg
    · obtain ⟨cs, hc⟩ := h.gens.bk eg; exact hint hc e'
  · rintro g eg (e' | e')
    · exact h.vo t g ht e' eg
    · obtain ⟨cs, hc⟩ := h.outs.bk eg; exact hint hc e'
  · by_cases es : s = t
    · subst es
      simp only [upd_same]
      exact hu.within hk (fun g eg e' => by obtain ⟨cs, hc⟩ := hu.bk eg; exact Bk.unlike hc bF1 (by decide) e')
    · simp only [upd_other es]
      refine (h.frees s hs).within hkk ?_
      rintro g eg (e' | e')
      · exact h.vv t s g ht hs (fun e => es e.symm) e' eg
      · obtain ⟨cs, hc⟩ := (h.frees s hs).bk eg; exact hint hc e'
  · by_cases es : s = t
    · subst es
      simp only [upd_same] at eg
      rcases hb with hb | hb
      · rw [hb] at eg; exact h.vg s g hs eg
      · exact fun e' => hnew g (hb g eg) (.inr (.inl e'))
    · simp only [upd_other es] at eg; exact h.vg s g hs eg
  · by_cases es : s = t
    · subst es
      simp only [upd_same] at eg
      rcases hb with hb | hb
      · rw [hb] at eg; exact h.vo s g hs eg
      · exact fun e' => hnew g (hb g eg) (.inr (.inr (.inl e')))
    · simp only [upd_other es] at eg; exact h.vo s g hs eg
  · by_cases es : s = t
    · subst es
      simp only [upd_same] at eg
      simp only [upd_other (fun e' : s' = s => hne e'.symm)]
      rcases hb with hb | hb
      · rw [hb] at eg; exact h.vv s s' g hs hs' hne eg
      · exact fun e' => hnew g (hb g eg) (.inr (.inr (.inr ⟨s', hs', e'⟩)))
    · simp only [upd_other es] at eg
      by_cases es' : s' = t
      · subst es'
        simp only [upd_same]
        rcases hb with hb | hb
        · rw [hb]; exact h.vv s s' g hs hs' hne eg
        · exact fun e' => hnew g (hb g e') (.inr (.inr (.inr ⟨s, hs, eg⟩)))
      · simp only [upd_other es']; exact h.vv s s' g hs hs' hne eg

/-- Whether a node is out is another. -/
theorem Rf.setO (h : Rf w x n each R free gen out) {O cap : Nat} (e : R.ov = .slice (some ⟨O, 0, none⟩) out.length cap) (q : Nat) (v : Int) :
    Rf (w.setCell ⟨O, q, none⟩ (.int .i64 v)) x n each R free gen (out.set q v) := by
  have hO : R.ov.ownBlock = some O := by rw [e]; rfl
  obtain ⟨cO, bO⟩ := h.outs.bk hO
  have hk : Within w (w.setCell ⟨O, q, none⟩ (.int .i64 v)) (fun i => i = O) := (Within.refl w _).put O _ _ (.inl rfl)
  refine ⟨h.ptr.within hk (Bk.unlike h.ptr bO (by decide)), h.row.within hk (fun g eg e' => ?_), h.gens.within hk (fun g eg e' => ?_), ?_, fun s hs => (h.frees s hs).within hk (fun g eg e' => ?_), h.go, h.vg, h.vo, h.vv⟩
  · obtain ⟨cs, hc⟩ := h.row.bk eg; exact Bk.unlike hc bO (by decide) e'
  · subst e'; exact h.go g eg hO
  · have ho := h.outs
    rw [e] at ho
    have h2 := ho.put q v
    rw [e]
    exact h2
  · subst e'; exact h.vo s g hs eg hO
/-- A node's generation is another. -/
theorem Rf.setG (h : Rf w x n each R free gen out) {G cap : Nat} (e : R.gv = .slice (some ⟨G, 0, none⟩) gen.length cap) (q : Nat) (v : Int) :
    Rf (w.setCell ⟨G, q, none⟩ (.int .i64 v)) x n each R free (gen.set q v) out := by
  have hG : R.gv.ownBlock = some G := by rw [e]; rfl
  obtain ⟨cG, bG⟩ := h.gens.bk hG
  have hk : Within w (w.setCell ⟨G, q, none⟩ (.int .i64 v)) (fun i => i = G) := (Within.refl w _).put G _ _ (.inl rfl)
  refine ⟨h.ptr.within hk (Bk.unlike h.ptr bG (by decide)), h.row.within hk (fun g eg e' => ?_), ?_, h.outs.within hk (fun g eg e' => ?_), fun s hs => (h.frees s hs).within hk (fun g eg e' => ?_), h.go, h.vg, h.vo, h.vv⟩
  · obtain ⟨cs, hc⟩ := h.row.bk eg; exact Bk.unlike hc bG (by decide) e'
  · have ho := h.gens
    rw [e] at ho
    have h2 := ho.put q v
    rw [e]
    exact h2
  · subst e'; exact h.go g hG eg
  · subst e'; exact h.vg s g hs eg hG
theorem RStays.put {g i : Nat} {u : Value} (h : R.Has n g) : RStays w n R (w.setCell ⟨g, i, none⟩ u) R := ⟨(Within.refl w _).put g _ _ (.inl h), fun _ h => .inl h⟩
theorem RStays.setV {w1 : World} {F t : Nat} {u : Value} (hF : R.fv.ownBlock = some F) (hg : w.grownBy w1 (R.vs t).ownBlock) (hb : u.ownBlock = (R.vs t).ownBlock ∨ ∀ g, u.ownBlock = some g → w.heap.size ≤ g) (ht : t < n) : RStays w n R (w1.setCell ⟨F, t, none⟩ u) { R with vs := upd R.vs t u } := by
  have hk1 : Within w w1 (R.Has n) := .of_grown hg (fun i e => .inl (.inr (.inr (.inr ⟨t, ht, e⟩))))
  refine ⟨hk1.put F _ _ (.inl (.inl hF)), fun i hi => ?_⟩
  rcases hi with e | e | e | ⟨s, hs, e⟩
  · exact .inl (.inl e)
  · exact .inl (.inr (.inl e))
  · exact .inl (.inr (.inr (.inl e)))
  · by_cases es : s = t
    · subst es
      simp only [upd_same] at e
      rcases hb with hb | hb
      · rw [hb] at e; exact .inl (.inr (.inr (.inr ⟨s, hs, e⟩)))
      · exact .inr (hb i e)
    · simp only [upd_other es] at e
      exact .inl (.inr (.inr (.inr ⟨s, hs, e⟩)))

/-- Behind the document's Take. -/
def RTaken (w : World) (x n each : Nat) (R : RM) (free : Nat → List Nat) (gen out : List Int) (t q : Nat) (rest : List Nat) (e : Ending) (w' : World) : Prop :=
  ∃ R', e = .returned (.tuple #[.int .u32 (hdl gen q), .int .i64 0]) ∧ Rf w' x n each R' (upd free t rest) gen (out.set q 1) ∧ RStays w n R w' R'

theorem rfTake (h : Rf w x n each R free gen out) (h64 : n ≤ 64) (t : Nat) (ht : t < n) {q : Nat} {rest : List Nat} (he : free t = q :: rest) (hlG : gen.length = N) (hlO : out.length = N) (hN : N ≤ 512) (hg : ∀ q, 0 ≤ nth gen q ∧ nth gen q < 262144) (hq : q < N) :
    Calls Tryz.prog 32 #[.pointer (some ⟨x, 0, none⟩), .int .i64 t] w (RTaken w x n each R free gen out t q rest) := by
  have c1 := h.c1
  have c3 := h.c3
  obtain ⟨F, cap, eF, h1, h2, hf, hc⟩ := h.fvIs (by omega)
  have hF : R.fv.ownBlock = some F := by rw [eF]; rfl
  obtain ⟨aO, capO, eO, o1, o2, o3⟩ := h.ovIs
  obtain ⟨O, rfl, hO, fO, cO⟩ := o3 (by omega)
  have hct := hc t ht
  have hfr := h.frees t ht
  rw [he] at hfr
  have hfr' : Fs w (R.vs t) (((q : Int) + 1) :: ones rest) := hfr
  obtain ⟨g, off, cp, ev, k1, k2, k3, k4, k5⟩ := hfr'.cut
  rw [ev] at hct
  rw [eF] at c1
  rw [eO] at c3
  have hOF : O ≠ F := by
    obtain ⟨c1', b1'⟩ := h.row.bk hF
    obtain ⟨c2', b2'⟩ := h.outs.bk hO
    exact Bk.unlike b2' b1' (by decide)
  have hxF : x ≠ F := by
    obtain ⟨c1', b1'⟩ := h.row.bk hF
    exact Bk.unlike h.ptr b1' (by decide)
  have r1 : ∀ (W : World) (u : Value) (i j : Nat), (W.setCell ⟨F, i, none⟩ u).cell? ⟨x, j, none⟩ = W.cell? ⟨x, j, none⟩ := fun W u i j => cell_off hxF
  have r2 : ∀ (W : World) (u : Value) (i j : Nat), (W.setCell ⟨F, i, none⟩ u).cell? ⟨O, j, none⟩ = W.cell? ⟨O, j, none⟩ := fun W u i j => cell_off hOF
  have hH := fun (W : World) (R' : RM) (fr' : Nat → List Nat) (o' : List Int) (hW : Rf W x n each R' fr' gen o') => rfHandle hW (by omega) (q := q) (by omega) (hg q)
  have hcq := cO q (by omega)
  have hfq := fO q
  have hft := hf t
  obtain ⟨u, hu, hub, huc⟩ : ∃ u, Fs w u (ones rest) ∧ u.ownBlock = (R.vs t).ownBlock ∧ (cp = 1 ∧ u = .slice (some ⟨g, off, none⟩) (ones rest).length (cp - 1) ∨ cp ≠ 1 ∧ u = .slice (some ⟨g, off + 1, none⟩) (ones rest).length (cp - 1)) := by
    by_cases e : cp = 1
    · exact ⟨_, k4 e, by rw [ev]; rfl, .inl ⟨e, rfl⟩⟩
    · exact ⟨_, k5 e, by rw [ev]; rfl, .inr ⟨e, rfl⟩⟩
  have hV := h.setV ht eF (grown_refl w _) hu (.inl hub)
  have hVs : RStays w n R (w.setCell ⟨F, t, none⟩ u) { R with vs := upd R.vs t u } := RStays.setV hF (grown_refl w _) (.inl hub) ht
  have hVO := hV.setO (R := { R with vs := upd R.vs t u }) eO q 1
  have hVOs := hVs.then_ (RStays.put (w := w.setCell ⟨F, t, none⟩ u) (n := n) (R := { R with vs := upd R.vs t u }) (g := O) (i := q) (u := .int .i64 1) (.inr (.inr (.inl hO))))
  have HH := Lib.hid (hH _ _ _ _ hVO)
  have HV := Lib.hid hVO
  have HS := Lib.hid hVOs
  clear hH hV hVs hVO hVOs hu hub k4 k5 hfr hfr' hc o3 cO fO hf h eF eO ev hF hO
  have b1 : (q : Int) < out.length := by omega
  generalize (ones rest).length = L at *
  rcases huc with ⟨rfl, rfl⟩ | ⟨hcp, rfl⟩
  · obtain rfl : L = 0 := by omega
    go_enter Tryz.func32, Tryz.ntmps32
    go_wp2
    go_region
    go_wp2_with fail
    refine (rfHandle (HV.out.drewN 1) (by omega) (q := q) (by omega) (hg q)).mono ?_
    rintro e w' ⟨rfl, rfl⟩
    go_wp2
    go_ret2
    exact ⟨_, rfl, HV.out.drewN 1, HS.out.draws 1⟩
  · go_enter Tryz.func32, Tryz.ntmps32
    go_wp2
    go_region
    go_wp2_with fail
    refine (rfHandle (HV.out.drewN 1) (by omega) (q := q) (by omega) (hg q)).mono ?_
    rintro e w' ⟨rfl, rfl⟩
    go_wp2
    go_ret2
    exact ⟨_, rfl, HV.out.drewN 1, HS.out.draws 1⟩
end
end Go.Proofs.YtpinpipjlongaaaGreat
