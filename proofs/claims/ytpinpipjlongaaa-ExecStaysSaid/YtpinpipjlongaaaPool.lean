/- Pool, PoolB, PoolC, PoolSame, one behind the other. -/
import Derived.Test.YtpinpipjlongaaaRing
import Derived.Test.YtpinpipjlongaaaHandleB
import Derived.Maps.RangeWalk
/- What each function of layer 5 (pool) returns, and what the pool is then: one contract a function, for every pool, every number of a thread and every word. -/
namespace Go.Proofs.Ytpinpipjlongaaa
set_option maxRecDepth 100000
open Go.ChangeShapes Go.WideShapes Go.ChangeAt Go.RowKit

/-- One element is another. -/
def upd {α : Type} (f : Nat → α) (t : Nat) (v : α) : Nat → α := fun i => if i = t then v else f i
theorem upd_same {α : Type} (f : Nat → α) (t : Nat) (v : α) : upd f t v t = v := by simp [upd]
theorem upd_other {α : Type} {f : Nat → α} {t i : Nat} {v : α} (h : i ≠ t) : upd f t v i = f i := by simp [upd, h]

/-- Where a pool lies: the row of rings, the map, each ring, and each ring's places, where there are any. -/
structure PM where
  g : Nat
  b : Nat
  ps : Nat → Nat
  ogs : Nat → Option Nat
/-- The blocks that calls may change. -/
def PM.Has (M : PM) (n i : Nat) : Prop := i = M.b ∨ ∃ j, j < n ∧ (i = M.ps j ∨ M.ogs j = some i)
/-- The first k rings' pointers, as cells. -/
def ptRow (ps : Nat → Nat) (n k : Nat) : Array Value := ((List.range n).map (fun i => if i < k then Value.pointer (some ⟨ps i, 0, none⟩) else .pointer none)).toArray
theorem ptRow_at (ps : Nat → Nat) (n k i : Nat) (h : i < n) : (ptRow ps n k)[i]? = some (if i < k then Value.pointer (some ⟨ps i, 0, none⟩) else .pointer none) := by simp [ptRow, h]
theorem ptRow_made (ps : Nat → Nat) (n : Nat) : madeCells #[.pointer none] n = ptRow ps n 0 := by
  apply Array.ext
  · simp [madeCells, ptRow]
  · intro i h1 h2; simp [madeCells, ptRow, Nat.mod_one]
theorem ptRow_set (ps : Nat → Nat) (n k q : Nat) : (ptRow ps n k).setIfInBounds k (.pointer (some ⟨q, 0, none⟩)) = ptRow (upd ps k q) n (k + 1) := by
  unfold ptRow
  rw [List.setIfInBounds_toArray]
  congr 1
  apply List.ext_getElem?
  intro i
  simp only [List.getElem?_set, List.length_map, List.length_range, List.getElem?_map]
  by_cases hi : i < n
  · rw [List.getElem?_range hi]
    by_cases e : k = i
    · subst e; simp [hi, upd_same]
    · have h1 : (i < k + 1) ↔ i < k := by omega
      have h2 : upd ps k q i = ps i := upd_other (fun h => e h.symm)
      simp [e, h1, h2]
  · rw [List.getElem?_eq_none (by simpa using hi)]
    simp; omega

/-- A pool of n threads with each nodes: fr are the free handles of each thread in order; os says which handles are out, they are c. -/
structure Pl (w : World) (p n each : Nat) (M : PM) (fr : Nat → List Int) (os : Int → Bool) (c : Nat) : Prop where
  ptr : Bk w p 100 #[.int .i64 each, .slice (some ⟨M.g, 0, none⟩) n n, .map (some M.b)]
  row : Bk w M.g 101 (ptRow M.ps n n)
  rings : ∀ i, i < n → RWord.Rg w (M.ps i) (M.ogs i) each (fr i)
  set : Outs w M.b os c
  psne : ∀ i j, i < n → j < n → i ≠ j → M.ps i ≠ M.ps j
  ogne : ∀ i j g, i < n → j < n → i ≠ j → M.ogs i = some g → M.ogs j ≠ some g
  few : n ≤ 64
  one : 1 ≤ n
  eight : each ≤ 8

theorem Rg_hd {w : World} {p : Nat} {og : Option Nat} {r : Nat} {vs : List Int} (h : RWord.Rg w p og r vs) : ∃ cs, Bk w p 152 cs := by
  obtain ⟨n, f, cs, h⟩ := h; exact ⟨_, h.hd⟩
theorem Rg_row {w : World} {p g : Nat} {og : Option Nat} {r : Nat} {vs : List Int} (h : RWord.Rg w p og r vs) (e : og = some g) : ∃ cs, Bk w g 49 cs := by
  obtain ⟨n, f, cs, h⟩ := h; exact ⟨_, h.row g e⟩

section
variable {w w' : World} {p n each c : Nat} {M : PM} {fr : Nat → List Int} {os : Int → Bool}
theorem Pl.c0 (h : Pl w p n each M fr os c) : w.cell? ⟨p, 0, none⟩ = some (.int .i64 each) := by rw [h.ptr.cell]; rfl
theorem Pl.c1 (h : Pl w p n each M fr os c) : w.cell? ⟨p, 1, none⟩ = some (.slice (some ⟨M.g, 0, none⟩) n n) := by rw [h.ptr.cell]; rfl
theorem Pl.c2 (h : Pl w p n each M fr os c) : w.cell? ⟨p, 2, none⟩ = some (.map (some M.b)) := by rw [h.ptr.cell]; rfl
theorem Pl.at_ (h : Pl w p n each M fr os c) {i : Nat} (hi : i < n) : w.cell? ⟨M.g, i, none⟩ = some (.pointer (some ⟨M.ps i, 0, none⟩)) := by rw [h.row.cell, ptRow_at _ _ _ _ hi, if_pos hi]
theorem Pl.drewN (h : Pl w p n each M fr os c) (m : Nat) : Pl (w.drewN m) p n each M fr os c := ⟨h.ptr, h.row, fun i hi => (h.rings i hi).draws m, h.set, h.psne, h.ogne, h.few, h.one, h.eight⟩
theorem Pl.lt (h : Pl w p n each M fr os c) {i : Nat} (k : M.Has n i) : i < w.heap.size := by
  rcases k with rfl | ⟨j, hj, rfl | e⟩
  · exact h.set.lt
  · exact (h.rings j hj).p_lt
  · exact (h.rings j hj).g_lt e
theorem Pl.p_lt (h : Pl w p n each M fr os c) : p < w.heap.size := h.ptr.lt
theorem Pl.g_lt (h : Pl w p n each M fr os c) : M.g < w.heap.size := h.row.lt
/-- Whatever else is cells of another type isn't the pool's. -/
theorem Pl.not_has {q : Nat} {t : TypeId} {cs : Array Value} (h : Pl w p n each M fr os c) (k : Bk w q t cs) (h1 : t ≠ 152) (h2 : t ≠ 49) : ¬ M.Has n q := by
  rintro (e | ⟨j, hj, e | e⟩)
  · exact h.set.not_bk k e.symm
  · obtain ⟨cs', hb⟩ := Rg_hd (h.rings j hj)
    exact Bk.unlike k hb h1 e
  · obtain ⟨cs', hb⟩ := Rg_row (h.rings j hj) e
    exact Bk.unlike k hb h2 rfl
theorem Pl.kept {S : Nat → Prop} (h : Pl w p n each M fr os c) (k : Within w w' S) (h1 : ¬ S p) (h2 : ¬ S M.g) (h3 : ∀ i, M.Has n i → ¬ S i) : Pl w' p n each M fr os c :=
  ⟨h.ptr.within k h1, h.row.within k h2, fun i hi => (h.rings i hi).kept k (h3 _ (.inr ⟨i, hi, .inl rfl⟩)) (fun _ e => h3 _ (.inr ⟨i, hi, .inr e⟩)), h.set.within k (h3 _ (.inl rfl)), h.psne, h.ogne, h.few, h.one, h.eight⟩
theorem Pl.grown (h : Pl w p n each M fr os c) (k : w.grownBy w' none) : Pl w' p n each M fr os c := h.kept (S := fun _ => False) (.of_grown k (by simp)) (by simp) (by simp) (by simp)

/-- One ring has become another. -/
theorem Pl.ring (h : Pl w p n each M fr os c) {t : Nat} (ht : t < n) {og : Option Nat} {vs : List Int} (hr : RWord.Rg w' (M.ps t) og each vs) (k : Moved w (M.ps t) (M.ogs t) w' og) :
    Pl w' p n each { M with ogs := upd M.ogs t og } (upd fr t vs) os c := by
  obtain ⟨k1, k2⟩ := k
  have hin : ∀ i, (i = M.ps t ∨ some i = M.ogs t) → M.Has n i := fun i e => .inr ⟨t, ht, e.imp id Eq.symm⟩
  have hp : ¬ (p = M.ps t ∨ some p = M.ogs t) := fun e => h.not_has h.ptr (by decide) (by decide) (hin _ e)
  have hg : ¬ (M.g = M.ps t ∨ some M.g = M.ogs t) := fun e => h.not_has h.row (by decide) (by decide) (hin _ e)
  have hb : ¬ (M.b = M.ps t ∨ some M.b = M.ogs t) := by
    rintro (e | e)
    · obtain ⟨cs, hc⟩ := Rg_hd (h.rings t ht); exact h.set.not_bk hc e
    · obtain ⟨cs, hc⟩ := Rg_row (h.rings t ht) e.symm; exact h.set.not_bk hc rfl
  refine ⟨h.ptr.within k2 hp, h.row.within k2 hg, fun i hi => ?_, h.set.within k2 hb, h.psne, fun i j g hi hj hne => ?_, h.few, h.one, h.eight⟩
  · by_cases e : i = t
    · subst e; simp only [upd_same]; exact hr
    · simp only [upd_other e]
      refine (h.rings i hi).kept k2 ?_ (fun g eg => ?_)
      · rintro (e' | e')
        · exact h.psne i t hi ht e e'
        · obtain ⟨cs, hc⟩ := Rg_hd (h.rings i hi)
          obtain ⟨cs', hc'⟩ := Rg_row (h.rings t ht) e'.symm
          exact Bk.unlike hc hc' (by decide) rfl
      · rintro (e' | e')
        · obtain ⟨cs, hc⟩ := Rg_row (h.rings i hi) eg
          obtain ⟨cs', hc'⟩ := Rg_hd (h.rings t ht)
          exact Bk.unlike hc hc' (by decide) e'
        · exact h.ogne i t g hi ht e eg e'.symm
  · intro e1 e2
    by_cases ei : i = t
    · subst ei
      simp only [upd_same, upd_other (fun e => hne e.symm)] at e1 e2
      rcases k1 with e | ⟨g', e, hg'⟩
      · rw [e] at e1; exact h.ogne i j g hi hj hne e1 e2
      · rw [e] at e1; injection e1 with e1; subst e1
        have := (h.rings j hj).g_lt e2; omega
    · simp only [upd_other ei] at e1
      by_cases ej : j = t
      · subst ej
        simp only [upd_same] at e2
        rcases k1 with e | ⟨g', e, hg'⟩
        · rw [e] at e2; exact h.ogne i j g hi hj hne e1 e2
        · rw [e] at e2; injection e2 with e2; subst e2
          have := (h.rings i hi).g_lt e1; omega
      · simp only [upd_other ej] at e2
        exact h.ogne i j g hi hj hne e1 e2
/-- The map has become another. -/
theorem Pl.outs (h : Pl w p n each M fr os c) {os' : Int → Bool} {c' : Nat} (ho : Outs w' M.b os' c') (k : Only w w' M.b) : Pl w' p n each M fr os' c' := by
  have k' : Within w w' (fun i => i = M.b) := .of_grown k (by simp)
  refine ⟨h.ptr.within k' (fun e => h.set.not_bk h.ptr e.symm), h.row.within k' (fun e => h.set.not_bk h.row e.symm), fun i hi => ?_, ho, h.psne, h.ogne, h.few, h.one, h.eight⟩
  refine (h.rings i hi).kept k' (fun e => ?_) (fun g eg e => ?_)
  · obtain ⟨cs, hc⟩ := Rg_hd (h.rings i hi); exact h.set.not_bk hc e.symm
  · obtain ⟨cs, hc⟩ := Rg_row (h.rings i hi) eg; exact h.set.not_bk hc e.symm

/-- Behind a call: only what is the pool's has changed; what is the pool's now was so, or is new. -/
def Stays (w : World) (n : Nat) (M : PM) (w' : World) (M' : PM) : Prop := M'.g = M.g ∧ Within w w' (M.Has n) ∧ ∀ i, M'.Has n i → M.Has n i ∨ w.heap.size ≤ i
theorem Stays.refl (w : World) (n : Nat) (M : PM) : Stays w n M w M := ⟨rfl, Within.refl _ _, fun _ h => .inl h⟩
theorem Stays.draws {M' : PM} (h : Stays w n M w' M') (m : Nat) : Stays w n M (w'.drewN m) M' := ⟨h.1, h.2.1.draws m, h.2.2⟩
theorem Stays.then_ {w'' : World} {M' M'' : PM} (h : Stays w n M w' M') (k : Stays w' n M' w'' M'') : Stays w n M w'' M'' :=
  ⟨k.1.trans h.1, h.2.1.then_ k.2.1 h.2.2, fun i hi => by
    rcases k.2.2 i hi with e | e
    · exact h.2.2 i e
    · exact .inr (Nat.le_trans h.2.1.size e)⟩
theorem Stays.ring {t : Nat} (ht : t < n) {og : Option Nat} (k : Moved w (M.ps t) (M.ogs t) w' og) : Stays w n M w' { M with ogs := upd M.ogs t og } := by
  refine ⟨rfl, k.2.wide (fun i e _ => .inr ⟨t, ht, e.imp id Eq.symm⟩), fun i hi => ?_⟩
  rcases hi with e | ⟨j, hj, e | e⟩
  · exact .inl (.inl e)
  · exact .inl (.inr ⟨j, hj, .inl e⟩)
  · by_cases ej : j = t
    · subst ej
      simp only [upd_same] at e
      rcases k.1 with e' | ⟨g', e', hg⟩
      · rw [e'] at e; exact .inl (.inr ⟨j, hj, .inr e⟩)
      · rw [e'] at e; injection e with e; subst e; exact .inr hg
    · simp only [upd_other ej] at e
      exact .inl (.inr ⟨j, hj, .inr e⟩)
theorem Stays.outs (k : Only w w' M.b) : Stays w n M w' M := ⟨rfl, .of_grown k (fun i e => .inl (.inl (by injection e with e; exact e.symm))), fun _ h => .inl h⟩

theorem plThread (h : Pl w p n each M fr os c) (t : Nat) (ht : t < n) :
    Calls Try.prog 57 #[.pointer (some ⟨p, 0, none⟩), .int .i64 t] w fun e w' => e = .returned (.bool true) ∧ w = w' := by
  have h0 := h.c1
  have hf := h.few
  go_enter Try.func57, Try.ntmps57
  go_wp2
  go_ret
  exact ⟨rfl, rfl⟩

theorem plThreadNo (h : Pl w p n each M fr os c) (t : Int) (ht : t < 0 ∨ n ≤ t) :
    Calls Try.prog 57 #[.pointer (some ⟨p, 0, none⟩), .int .i64 t] w fun e w' => e = .returned (.bool false) ∧ w = w' := by
  have h0 := h.c1
  have hf := h.few
  rcases ht with ht | ht
  · go_enter Try.func57, Try.ntmps57
    go_wp2
    go_ret
    exact ⟨rfl, rfl⟩
  · have h1 : 0 ≤ t := by omega
    go_enter Try.func57, Try.ntmps57
    go_wp2
    go_ret
    exact ⟨ret_bool (decide_eq_false (by omega)), rfl⟩

theorem plIs (h : Pl w p n each M fr os c) (x : Int) (h0 : 0 ≤ x) (h1 : x < 4294967296) :
    Calls Try.prog 60 #[.pointer (some ⟨p, 0, none⟩), .int .u32 x] w fun e w' => e = .returned (.bool (os x)) ∧ w = w' := by
  have c2 := h.c2
  have hl := h.set.look h0 h1
  go_enter Try.func60, Try.ntmps60
  go_wp2
  go_ret
  exact ⟨rfl, rfl⟩

theorem plTakeNo (h : Pl w p n each M fr os c) (t : Int) (ht : t < 0 ∨ n ≤ t) :
    Calls Try.prog 39 #[.pointer (some ⟨p, 0, none⟩), .int .i64 t] w fun e w' => e = .returned (.tuple #[.int .u32 0, .int .i64 4]) ∧ w = w' := by
  go_enter Try.func39, Try.ntmps39
  go_wp2_with fail
  refine (plThreadNo h t ht).mono ?_
  rintro e w' ⟨rfl, rfl⟩
  go_wp2
  go_ret2
  exact ⟨rfl, rfl⟩

theorem plTakeNone (h : Pl w p n each M fr os c) (t : Nat) (ht : t < n) (he : fr t = []) :
    Calls Try.prog 39 #[.pointer (some ⟨p, 0, none⟩), .int .i64 t] w fun e w' => e = .returned (.tuple #[.int .u32 0, .int .i64 0]) ∧ w = w' := by
  have c1 := h.c1
  have c2 := h.at_ ht
  have hf := h.few
  have hr := h.rings t ht
  rw [he] at hr
  go_enter Try.func39, Try.ntmps39
  go_wp2_with fail
  refine (plThread h t ht).mono ?_
  rintro e w' ⟨rfl, rfl⟩
  go_wp2_with fail
  refine (RWord.take_no hr).mono ?_
  rintro e w' ⟨rfl, rfl⟩
  go_wp2
  go_ret2
  exact ⟨rfl, rfl⟩

/-- Behind a Take: the first free one is out. -/
def Taken (w : World) (p n each : Nat) (M : PM) (fr : Nat → List Int) (os : Int → Bool) (c t : Nat) (x : Int) (vs : List Int) (e : Ending) (w' : World) : Prop :=
  ∃ M', e = .returned (.tuple #[.int .u32 x, .int .i64 0]) ∧ Pl w' p n each M' (upd fr t vs) (turn os x true) (c + 1) ∧ Stays w n M w' M'

theorem plTake (h : Pl w p n each M fr os c) (hc : c < 1000000) (t : Nat) (ht : t < n) {x : Int} {vs : List Int} (he : fr t = x :: vs) (h0 : 0 ≤ x) (h1 : x < 4294967296) (hx : os x = false) :
    Calls Try.prog 39 #[.pointer (some ⟨p, 0, none⟩), .int .i64 t] w (Taken w p n each M fr os c t x vs) := by
  have c1 := h.c1
  have c2 := h.at_ ht
  have hf := h.few
  have hr := h.rings t ht
  rw [he] at hr
  go_enter Try.func39, Try.ntmps39
  go_wp2_with fail
  refine (plThread h t ht).mono ?_
  rintro e w' ⟨rfl, rfl⟩
  go_wp2_with fail
  refine (RWord.take_ok hr).mono ?_
  rintro e w2 ⟨rfl, hr2, hw2⟩
  have hmv : Moved w (M.ps t) (M.ogs t) w2 (M.ogs t) := ⟨.inl rfl, hw2⟩
  have hp2 := h.ring ht hr2 hmv
  have hs2 := Stays.ring (n := n) ht hmv
  clear c1 c2 hr
  have d2 := hp2.c2
  obtain ⟨w3, hup, ho, hg⟩ := hp2.set.add hc h0 h1 hx
  simp only at d2 hup ho hg
  have HP := Lib.hid hp2
  have HS := Lib.hid hs2
  clear hp2 hs2
  go_wp2
  go_ret2
  exact ⟨_, rfl, HP.out.outs ho hg, HS.out.then_ (Stays.outs hg)⟩
end
end Go.Proofs.Ytpinpipjlongaaa

/- Owner and Free of layer 5 (pool): contracts, for every pool and every word. -/
namespace Go.Proofs.Ytpinpipjlongaaa
set_option maxRecDepth 100000
open Go.ChangeShapes Go.WideShapes Go.ChangeAt Go.RowKit
section
variable {w w' : World} {p n each c : Nat} {M : PM} {fr : Nat → List Int} {os : Int → Bool}

/-- No node has the index of this word. -/
def NoNode (n each : Nat) (x : Int) : Prop := x % 4096 < 1 ∨ ((n * each : Nat) : Int) < x % 4096
theorem plOwnerNo (h : Pl w p n each M fr os c) (x : Int) (h0 : 0 ≤ x) (h1 : x < 4294967296) (hx : NoNode n each x) :
    Calls Try.prog 59 #[.pointer (some ⟨p, 0, none⟩), .int .u32 x] w fun e w' => e = .returned (.tuple #[.int .i64 0, .bool false]) ∧ ∃ m, w' = w.drewN m := by
  have c0 := h.c0
  have c1 := h.c1
  have hf := h.few
  have he := h.eight
  rcases hx with hx | hx
  · have t1 : decide (x % 4096 < 1) = true := decide_eq_true hx
    go_enter Try.func59, Try.ntmps59
    go_wp2_with fail
    refine (hIndex x h0 h1 _).mono ?_
    rintro e w' ⟨rfl, rfl⟩
    go_wp2
    go_quiet (fail)
    go_wp2
    go_ret2
    exact ⟨rfl, _, rfl⟩
  · have hb : n * each ≤ 64 * 8 := Nat.mul_le_mul hf he
    have e1 : ((n * each : Nat) : Int) = (n : Int) * (each : Int) := by simp
    have t1 : decide (x % 4096 < 1) = false := by simp; omega
    have t2 : decide (((n : Int) * (each : Int)) < x % 4096) = true := by rw [← e1]; exact decide_eq_true hx
    have t3 : wrap64 ((n : Int) * (each : Int)) = (n : Int) * (each : Int) := IntWalk.wrap64_in _ (by omega)
    clear hx hb e1
    go_enter Try.func59, Try.ntmps59
    go_wp2_with fail
    refine (hIndex x h0 h1 _).mono ?_
    rintro e w' ⟨rfl, rfl⟩
    go_wp2
    go_quiet (fail)
    go_wp2
    go_ret2
    exact ⟨rfl, _, rfl⟩

/-- Whose node it is. -/
theorem plOwner (h : Pl w p n each M fr os c) (x : Int) (h0 : 0 ≤ x) (h1 : x < 4294967296) {t i : Nat} (hi : i < each) (ht : t < n) (hx : x % 4096 = ((t * each + i + 1 : Nat) : Int)) :
    Calls Try.prog 59 #[.pointer (some ⟨p, 0, none⟩), .int .u32 x] w fun e w' => e = .returned (.tuple #[.int .i64 t, .bool true]) ∧ ∃ m, w' = w.drewN m := by
  have c0 := h.c0
  have c1 := h.c1
  have hf := h.few
  have he := h.eight
  have hb : n * each ≤ 64 * 8 := Nat.mul_le_mul hf he
  have hle : t * each + i + 1 ≤ n * each := by
    have : (t + 1) * each ≤ n * each := Nat.mul_le_mul_right _ ht
    rw [Nat.add_mul, Nat.one_mul] at this
    omega
  have e1 : ((n * each : Nat) : Int) = (n : Int) * (each : Int) := by simp
  have t1 : decide (x % 4096 < 1) = false := by simp; omega
  have t2 : decide (((n : Int) * (each : Int)) < x % 4096) = false := by rw [← e1]; simp; omega
  have t3 : wrap64 ((n : Int) * (each : Int)) = (n : Int) * (each : Int) := IntWalk.wrap64_in _ (by omega)
  have hz : ¬ (each : Int) = 0 := by omega
  have hq : (x % 4096 - 1).tdiv (each : Int) = (t : Int) := by
    rw [hx, show ((t * each + i + 1 : Nat) : Int) - 1 = ((t * each + i : Nat) : Int) by omega, ← Int.ofNat_tdiv, Nat.mul_comm, Nat.mul_add_div (by omega), Nat.div_eq_of_lt hi, Nat.add_zero]
  have HX := Lib.hid hx
  have HLE := Lib.hid hle
  clear hb e1 hx hle
  go_enter Try.func59, Try.ntmps59
  go_wp2_with fail
  refine (hIndex x h0 h1 _).mono ?_
  rintro e w' ⟨rfl, rfl⟩
  go_wp2
  go_quiet (fail)
  go_wp2
  go_ret2
  exact ⟨rfl, _, rfl⟩

theorem plFree0 :
    Calls Try.prog 40 #[.pointer (some ⟨p, 0, none⟩), .int .u32 0] w fun e w' => e = .returned (.int .i64 0) ∧ w = w' := by
  go_enter Try.func40, Try.ntmps40
  go_wp2
  go_ret
  exact ⟨rfl, rfl⟩

/-- A word's index is none's, or somebody's. -/
theorem node_or (n each : Nat) (x : Int) (h : ¬ NoNode n each x) : ∃ t i, t < n ∧ i < each ∧ x % 4096 = ((t * each + i + 1 : Nat) : Int) := by
  unfold NoNode at h
  have h1 : 1 ≤ x % 4096 := by omega
  have h2 : x % 4096 ≤ ((n * each : Nat) : Int) := by omega
  obtain ⟨k, hk⟩ := Int.eq_ofNat_of_zero_le (show 0 ≤ x % 4096 - 1 by omega)
  have hlt : k < n * each := by omega
  have he : 0 < each := Nat.pos_of_ne_zero (fun e => by subst e; simp at hlt)
  refine ⟨k / each, k % each, ?_, Nat.mod_lt _ he, ?_⟩
  · exact (Nat.div_lt_iff_lt_mul he).2 hlt
  · rw [Nat.mul_comm, Nat.div_add_mod]; omega

theorem plFreeNo (h : Pl w p n each M fr os c) (x : Int) (h0 : 0 ≤ x) (h1 : x < 4294967296) (hx : os x = false) (hz : x ≠ 0) :
    Calls Try.prog 40 #[.pointer (some ⟨p, 0, none⟩), .int .u32 x] w fun e w' => e = .returned (.int .i64 10) ∧ ∃ m, w' = w.drewN m := by
  have hI := Lib.hid hx
  clear hx
  by_cases hn : NoNode n each x
  · go_enter Try.func40, Try.ntmps40
    go_wp2_with fail
    refine (plOwnerNo h x h0 h1 hn).mono ?_
    rintro e w' ⟨rfl, m, rfl⟩
    go_wp2
    go_ret
    exact ⟨rfl, _, rfl⟩
  · obtain ⟨t, i, ht, hi, hx⟩ := node_or n each x hn
    have hO := plOwner h x h0 h1 hi ht hx
    clear hx hn
    go_enter Try.func40, Try.ntmps40
    go_wp2_with fail
    refine hO.mono ?_
    clear hO
    rintro e w' ⟨rfl, m, rfl⟩
    go_wp2_with fail
    refine (plIs (h.drewN m) x h0 h1).mono ?_
    rintro e w' ⟨rfl, rfl⟩
    rw [hI.out]
    go_wp2
    go_ret
    exact ⟨rfl, _, rfl⟩

/-- The handle of the next generation. -/
def nxt (x : Int) : Int := (x / 4096 + 1) % 262144 * 4096 + x % 4096
/-- Behind a Free: the node is free, last of its thread's, with the next generation. -/
def Freed (w : World) (p n each : Nat) (M : PM) (fr : Nat → List Int) (os : Int → Bool) (c t : Nat) (x : Int) (e : Ending) (w' : World) : Prop :=
  ∃ M', e = .returned (.int .i64 0) ∧ Pl w' p n each M' (upd fr t (fr t ++ [nxt x])) (turn os x false) (c - 1) ∧ Stays w n M w' M'

theorem within_drew {w w' : World} {S : Nat → Prop} (h : Within w.drew w' S) : Within w w' S := ⟨h.os, h.tape, h.output, h.size, h.block⟩
theorem moved_drew {w w' : World} {p : Nat} {og og' : Option Nat} (h : Moved w.drew p og w' og') : Moved w p og w' og' := ⟨h.1, within_drew h.2⟩

theorem plFree (h : Pl w p n each M fr os c) (x : Int) (h0 : 0 ≤ x) (h1 : x < 4294967296) (hx : os x = true) {t i : Nat} (hi : i < each) (ht : t < n) (hn : x % 4096 = ((t * each + i + 1 : Nat) : Int)) (hl : (fr t).length < each) :
    Calls Try.prog 40 #[.pointer (some ⟨p, 0, none⟩), .int .u32 x] w (Freed w p n each M fr os c t x) := by
  have hz : x ≠ 0 := by omega
  have hO := plOwner h x h0 h1 hi ht hn
  have HX := Lib.hid hx
  have HN := Lib.hid hn
  clear hx hn
  go_enter Try.func40, Try.ntmps40
  go_wp2_with fail
  refine hO.mono ?_
  clear hO
  rintro e w' ⟨rfl, m, rfl⟩
  have hs1 : Stays w n M (w.drewN m) M := (Stays.refl w n M).draws m
  have h := h.drewN m
  generalize w.drewN m = w1 at h hs1 ⊢
  go_wp2_with fail
  refine (plIs h x h0 h1).mono ?_
  rintro e w' ⟨rfl, rfl⟩
  rw [HX.out]
  have c2 := h.c2
  go_wp2_with (first | (at_delete; refine wpOutsDrop rfl _ _ rfl rfl h.set h0 h1 rfl HX.out ?_; intro w2 ho2 hg2) | go_in)
  have hp2 := h.outs ho2 hg2
  have hs2 := hs1.then_ (Stays.outs hg2)
  clear hs1 h ho2 hg2 c2
  have d1 := hp2.c1
  have d2 := hp2.at_ ht
  have hf := hp2.few
  have hr : RWord.Rg w2.drew (M.ps t) (M.ogs t) each (fr t) := (hp2.rings t ht).draws 1
  have HP := Lib.hid hp2
  have HS := Lib.hid hs2
  clear hp2 hs2
  go_frame
  go_region_held3 (fun w' => w'.cell? ⟨p, 1, none⟩ = some (Value.slice (some ⟨M.g, 0, none⟩) n n) ∧ w'.cell? ⟨M.g, t, none⟩ = some (Value.pointer (some ⟨M.ps t, 0, none⟩))) (first | (exact ⟨f1, f2⟩) | go_keep)
    (first | (go_at_call 61; refine (hNext x h0 h1 _).mono ?_; rintro e w' ⟨rfl, rfl⟩)
           | (go_at_call 55; refine (RWord.put_ok hr hl _).mono ?_; rintro e w4 ⟨og, rfl, hr4, hmv4⟩; have hp4 := HP.out.ring ht hr4 (moved_drew hmv4); have f1 := hp4.c1; have f2 := hp4.at_ ht))
  have hs4 := HS.out.then_ (Stays.ring ht (moved_drew hmv4))
  go_wp2
  go_ret
  exact ⟨_, rfl, hp4, hs4⟩
end
end Go.Proofs.Ytpinpipjlongaaa

/- New of layer 5 (pool), and awake: contracts. -/
namespace Go.Proofs.Ytpinpipjlongaaa
set_option maxRecDepth 100000
open Go.ChangeShapes Go.WideShapes Go.ChangeAt Go.RowKit

/-- A thread's first k handles, as they are at first. -/
def firsts (t each k : Nat) : List Int := (List.range k).map (fun i => ((t * each + 1 + i : Nat) : Int))
theorem firsts_0 (t each : Nat) : firsts t each 0 = [] := rfl
theorem firsts_succ (t each k : Nat) : firsts t each k ++ [((t * each + 1 + k : Nat) : Int)] = firsts t each (k + 1) := by simp [firsts, List.range_succ]
theorem firsts_len (t each k : Nat) : (firsts t each k).length = k := by simp [firsts]
theorem held_each {each : Nat} (h : each ≤ 8) : RWord.held (each : Int) = each := by unfold RWord.held; rw [if_neg (by omega), if_neg (by omega), Int.toNat_natCast]

/-- A thread's ring as it is at first, all of it new. -/
def FirstPost (w : World) (t each : Nat) (e : Ending) (w' : World) : Prop :=
  ∃ q og, e = .returned (.pointer (some ⟨q, 0, none⟩)) ∧ RWord.Rg w' q og each (firsts t each each) ∧ Fresh w w' q og

theorem fFirst (t each : Nat) (ht : t < 64) (he : each ≤ 8) (w : World) : Calls Try.prog 35 #[.int .i64 t, .int .i64 each] w (FirstPost w t each) := by
  have hb : t * each ≤ 64 * 8 := Nat.mul_le_mul (by omega) he
  have e1 : ((t * each : Nat) : Int) = (t : Int) * (each : Int) := by simp
  generalize hm : t * each = m at hb e1
  clear hm
  have t3 : wrap64 ((t : Int) * (each : Int)) = (m : Int) := by rw [← e1]; exact IntWalk.wrap64_in _ (by omega)
  go_enter Try.func35, Try.ntmps35
  go_wp2_with fail
  refine (RWord.new_any each w).mono ?_
  rintro e w1 ⟨rfl, hr, hg⟩
  rw [held_each he] at hr
  have hF : Fresh w w1 w.heap.size none := ⟨hg, Nat.le_refl _, fun _ e => by cases e⟩
  generalize w.heap.size = q at hr hF ⊢
  go_wp2
  go_loopw [12] (fun i wr => ∃ k : Nat, ∃ og, k ≤ each ∧ i = .int .i64 k ∧ RWord.Rg wr q og each (firsts t each k) ∧ Fresh w wr q og) (fun i _ => each - (intOf i).toNat)
  case atStart => exact ⟨0, none, Nat.zero_le _, rfl, by rw [firsts_0]; exact hr, hF⟩
  case round =>
    obtain ⟨k, og, hk, rfl, hr, hF⟩ := hrel
    by_cases hlt : k < each
    · go_wp2_with fail
      refine (hNewGood _ 0 (by omega) (by omega) (by omega) (by omega) _).mono ?_
      rintro e w2 ⟨rfl, rfl⟩
      go_wp2_with fail
      refine (RWord.put_ok hr (by rw [firsts_len]; exact hlt) _).mono ?_
      rintro e w2 ⟨og2, rfl, hr2, hmv⟩
      have hr3 : RWord.Rg w2 q og2 each (firsts t each (k + 1)) := by
        rw [← firsts_succ, show ((t * each + 1 + k : Nat) : Int) = (t : Int) * (each : Int) + 1 + (k : Int) by simp]
        exact hr2
      go_wp2
      go_roundw
      case rel => exact ⟨k + 1, og2, by omega, by go_num, hr3, hF.moved hmv⟩
      case measure => simp [intOf]; omega
    · obtain rfl : k = each := by omega
      go_wp2
      go_ret
      exact ⟨q, og, rfl, hr, hF⟩

theorem pNewBad (x y : Int) (h : x < 1 ∨ 64 < x ∨ y < 0 ∨ 8 < y) (w : World) :
    Calls Try.prog 18 #[.int .i64 x, .int .i64 y] w fun e w' => e = .returned (.tuple #[.pointer none, .int .i64 1]) ∧ w = w' := by
  rcases (show x < 1 ∨ (¬ x < 1 ∧ 64 < x) ∨ (¬ x < 1 ∧ ¬ 64 < x ∧ y < 0) ∨ (¬ x < 1 ∧ ¬ 64 < x ∧ ¬ y < 0 ∧ 8 < y) by omega) with h | ⟨h1, h⟩ | ⟨h1, h2, h⟩ | ⟨h1, h2, h3, h⟩
  all_goals
    go_enter Try.func18, Try.ntmps18
    go_wp2
    go_ret2
    exact ⟨rfl, rfl⟩

/-- While a pool is made: k rings are there. -/
structure NewIn (w : World) (p n each k : Nat) (M : PM) (wr : World) : Prop where
  ptr : Bk wr p 100 #[.int .i64 each, .slice (some ⟨M.g, 0, none⟩) n n, .map (some M.b)]
  row : Bk wr M.g 101 (ptRow M.ps n k)
  rings : ∀ i, i < k → RWord.Rg wr (M.ps i) (M.ogs i) each (firsts i each each)
  set : Outs wr M.b (fun _ => false) 0
  psne : ∀ i j, i < k → j < k → i ≠ j → M.ps i ≠ M.ps j
  ogne : ∀ i j g, i < k → j < k → i ≠ j → M.ogs i = some g → M.ogs j ≠ some g
  gr : w.grownBy wr none
  new : ∀ i, M.Has k i → w.heap.size ≤ i
  newp : w.heap.size ≤ p
  newg : w.heap.size ≤ M.g

theorem NewIn.step {w wr w2 : World} {p n each k q : Nat} {M : PM} {og : Option Nat} (h : NewIn w p n each k M wr) (hr : RWord.Rg w2 q og each (firsts k each each)) (hF : Fresh wr w2 q og) :
    NewIn w p n each (k + 1) { M with ps := upd M.ps k q, ogs := upd M.ogs k og } (w2.setCell ⟨M.g, k, none⟩ (.pointer (some ⟨q, 0, none⟩))) := by
  have hw : Within wr w2 (fun _ => False) := .of_grown hF.1 (by simp)
  have hrow := (h.row.within hw (by simp))
  have hptr := (h.ptr.within hw (by simp))
  have hset := (h.set.within hw (by simp))
  have hk : Within w2 (w2.setCell ⟨M.g, k, none⟩ (.pointer (some ⟨q, 0, none⟩))) (fun i => i = M.g) := (Within.refl w2 _).put M.g _ _ (.inl rfl)
  have hkeep : ∀ {a : Nat} {o : Option Nat} {vs : List Int}, RWord.Rg w2 a o each vs → RWord.Rg (w2.setCell ⟨M.g, k, none⟩ (.pointer (some ⟨q, 0, none⟩))) a o each vs := by
    intro a o vs hr
    refine hr.kept hk (fun e => ?_) (fun g' e e' => ?_)
    · obtain ⟨cs, hc⟩ := Rg_hd hr; exact Bk.unlike hc hrow (by decide) e
    · obtain ⟨cs, hc⟩ := Rg_row hr e; exact Bk.unlike hc hrow (by decide) e'
  have hold : ∀ i, i < k → M.ps i < wr.heap.size := fun i hi => (h.rings i hi).p_lt
  have holg : ∀ i, i < k → ∀ g, M.ogs i = some g → g < wr.heap.size := fun i hi g e => (h.rings i hi).g_lt e
  refine ⟨hptr.within hk (Bk.unlike hptr hrow (by decide)), ?_, fun i hi => ?_, hset.within hk (hset.not_bk hrow), ?_, ?_, ?_, ?_, h.newp, h.newg⟩
  · have := hrow.put k (.pointer (some ⟨q, 0, none⟩))
    rw [ptRow_set] at this
    exact this
  · by_cases e : i = k
    · subst e; simp only [upd_same]; exact hkeep hr
    · simp only [upd_other e]
      exact hkeep ((h.rings i (by omega)).kept hw (by simp) (by simp))
  · intro i j hi hj hne
    have hq := hF.2.1
    by_cases ei : i = k
    · subst ei
      simp only [upd_same, upd_other (fun e => hne e.symm)]
      have := hold j (by omega); omega
    · simp only [upd_other ei]
      by_cases ej : j = k
      · subst ej; simp only [upd_same]; have := hold i (by omega); omega
      · simp only [upd_other ej]; exact h.psne i j (by omega) (by omega) hne
  · intro i j g hi hj hne
    by_cases ei : i = k
    · subst ei
      simp only [upd_same, upd_other (fun e => hne e.symm)]
      intro e1 e2
      have := hF.2.2 g e1; have := holg j (by omega) g e2; omega
    · simp only [upd_other ei]
      by_cases ej : j = k
      · subst ej; simp only [upd_same]; intro e1 e2
        have := hF.2.2 g e2; have := holg i (by omega) g e1; omega
      · simp only [upd_other ej]; exact h.ogne i j g (by omega) (by omega) hne
  · exact grown_then (grown_then h.gr hF.1 (.inl rfl)) (only_put _ _ _ _) (.inr fun x e => by injection e with e; have := h.newg; omega)
  · have hs := h.gr.size
    rintro i (e | ⟨j, hj, e | e⟩)
    · exact h.new i (.inl e)
    · by_cases ej : j = k
      · subst ej; simp only [upd_same] at e; have := hF.2.1; omega
      · simp only [upd_other ej] at e; exact h.new i (.inr ⟨j, by omega, .inl e⟩)
    · by_cases ej : j = k
      · subst ej; simp only [upd_same] at e; have := hF.2.2 i e; omega
      · simp only [upd_other ej] at e; exact h.new i (.inr ⟨j, by omega, .inr e⟩)

/-- A new pool, in memory of its own. -/
def PlMade (w : World) (n each : Nat) (e : Ending) (w' : World) : Prop :=
  ∃ p M, e = .returned (.tuple #[.pointer (some ⟨p, 0, none⟩), .int .i64 0]) ∧ Pl w' p n each M (fun t => firsts t each each) (fun _ => false) 0 ∧ w.grownBy w' none ∧ (∀ i, M.Has n i → w.heap.size ≤ i) ∧ w.heap.size ≤ p ∧ w.heap.size ≤ M.g

theorem ptinfo : (Try.prog.info? 101).map (fun i => (i.zero, i.size, i.bytes)) = some (some (.pointer none), 1, 8) := by kernel_rfl

theorem new_start (w : World) (n each : Nat) :
    NewIn w (w.heap.size + 2) n each 0 ⟨w.heap.size, w.heap.size + 1, fun _ => 0, fun _ => none⟩
      (((w.alloc (.cells (madeCells #[.pointer none] n) 101)).alloc (.map #[] 0)).alloc (.cells #[.int .i64 each, .slice (some ⟨w.heap.size, 0, none⟩) n n, .map (some (w.heap.size + 1))] 100)) := by
  have h1 := Bk.made w 101 (madeCells #[.pointer none] n)
  have g1 := grown_made w (.cells (madeCells #[.pointer none] n) 101) none
  have s1 : (w.alloc (.cells (madeCells #[.pointer none] n) 101)).heap.size = w.heap.size + 1 := by simp
  generalize w.alloc (.cells (madeCells #[.pointer none] n) 101) = w1 at h1 g1 s1 ⊢
  have h2 := Outs.made w1
  have g2 := grown_made w1 (.map #[] 0) none
  have s2 : (w1.alloc (.map #[] 0)).heap.size = w1.heap.size + 1 := by simp
  have h1' := h1.alloc (.map #[] 0)
  rw [s1] at h2
  generalize w1.alloc (.map #[] 0) = w2 at h2 g2 s2 h1' ⊢
  have h3 := Bk.made w2 100 #[.int .i64 each, .slice (some ⟨w.heap.size, 0, none⟩) n n, .map (some (w.heap.size + 1))]
  rw [show w2.heap.size = w.heap.size + 2 by omega] at h3
  rw [ptRow_made (fun _ => 0)] at h1'
  refine ⟨h3, h1'.alloc _, fun i hi => by omega, h2.within (S := fun _ => False) (.of_grown (grown_made _ _ none) (by simp)) (by simp), fun i j hi => by omega, fun i j g hi => by omega, ?_, ?_, by omega, Nat.le_refl _⟩
  · exact grown_then (grown_then g1 g2 (.inl rfl)) (grown_made _ _ none) (.inl rfl)
  · rintro i (e | ⟨j, hj, _⟩)
    · simp only at e; omega
    · omega

theorem fresh_drew {w w' : World} {p : Nat} {og : Option Nat} (h : Fresh w.drew w' p og) : Fresh w w' p og := ⟨⟨h.1.os, h.1.tape, h.1.output, h.1.size, h.1.block⟩, h.2⟩

set_option maxHeartbeats 400000 in
theorem plNew (n each : Nat) (h1 : 1 ≤ n) (hn : n ≤ 64) (he : each ≤ 8) (w : World) : Calls Try.prog 18 #[.int .i64 n, .int .i64 each] w (PlMade w n each) := by
  obtain ⟨i0, hi0, hz0, hz1, hz2⟩ := info_parts ptinfo
  have hmk := fun W : World => run_make (P := Try.prog) W 97 101 i0 _ Try.underlying97 hi0 hz0 .i64 .i64 n n (by omega) (by omega) (by rw [hz2]; omega) (by omega)
  rw [hz1] at hmk
  clear hi0 hz0 hz1 hz2
  have hmm := @run_makeMap Try.prog
  have hst := new_start w n each
  rw [show w.heap.size + 2 = w.heap.size + 1 + 1 from rfl] at hst
  have HST := Lib.hid hst
  clear hst
  go_enter Try.func18, Try.ntmps18
  go_wp2
  clear hmk hmm
  go_loopw [29] (fun i wr => ∃ (k : Nat) (ps : Nat → Nat) (ogs : Nat → Option Nat), k ≤ n ∧ i = .int .i64 k ∧ NewIn w (w.heap.size + 1 + 1) n each k ⟨w.heap.size, w.heap.size + 1, ps, ogs⟩ wr) (fun i _ => n - (intOf i).toNat)
  case atStart =>
    exact ⟨0, fun _ => 0, fun _ => none, Nat.zero_le _, rfl, HST.out⟩
  case round =>
    clear HST
    obtain ⟨k, ps, ogs, hk, rfl, hN⟩ := hrel
    have hpg : w.heap.size + 1 + 1 ≠ w.heap.size := by omega
    generalize w.heap.size + 1 + 1 = p at *
    by_cases hlt : k < n
    · have d1 : wr.cell? ⟨p, 1, none⟩ = some (.slice (some ⟨w.heap.size, 0, none⟩) n n) := by rw [hN.ptr.cell]; rfl
      have HN := Lib.hid hN
      clear hN
      have k1 : ∀ (W : World) (u : Value) (i j : Nat), (W.setCell ⟨w.heap.size, i, none⟩ u).cell? ⟨p, j, none⟩ = W.cell? ⟨p, j, none⟩ := fun W u i j => cell_off hpg
      go_wp2
      go_region_held3 (fun w' => w'.cell? ⟨p, 1, none⟩ = some (Value.slice (some ⟨w.heap.size, 0, none⟩) n n)) (first | (exact f1) | go_keep)
        (first | (go_at_call 35; refine (fFirst k each (by omega) he _).mono ?_; rintro e w2 ⟨q, og, rfl, hr2, hF2⟩; have hF := fresh_drew hF2; have hw2 := hF.1; have hrow := HN.out.row.grown hw2 (by simp); have f1 := (HN.out.ptr.grown hw2 (by simp)).cell 1; have f2 := hrow.cell k; rw [ptRow_at _ _ _ _ hlt] at f2; have f3 := hrow.free k; simp only [List.getElem?_toArray, List.getElem?_cons_zero, List.getElem?_cons_succ] at f1; simp only at f2 f3))
      have hs := HN.out.step hr2 hF
      have HS := Lib.hid hs
      clear hs hr2 hF hw2 hrow f1 f2 f3 k1 d1
      go_wp2
      go_roundw
      case rel => exact ⟨k + 1, _, _, by omega, by go_num, HS.out⟩
      case measure => simp [intOf]; omega
    · obtain rfl : k = n := by omega
      go_wp2
      go_ret2
      exact ⟨p, _, rfl, ⟨hN.ptr, hN.row, hN.rings, hN.set, hN.psne, hN.ogne, hn, h1, he⟩, hN.gr, hN.new, hN.newp, hN.newg⟩

/-- Behind awake: true; nothing that was there has changed. -/
def Awoke (w : World) (e : Ending) (w' : World) : Prop := e = .returned (.bool true) ∧ w.grownBy w' none
theorem stays_grown {w a b : World} {n : Nat} {M M' : PM} (h : w.grownBy a none) (hM : ∀ i, M.Has n i → w.heap.size ≤ i) (k : Stays a n M b M') : w.grownBy b none ∧ ∀ i, M'.Has n i → w.heap.size ≤ i :=
  ⟨((Within.of_grown (S := fun _ => False) h (by simp)).then_ k.2.1 (fun i hi => .inr (hM i hi))).grown (by simp), fun i hi => by
    rcases k.2.2 i hi with e | e
    · exact hM i e
    · exact Nat.le_trans h.size e⟩

theorem firsts_122 : firsts 1 2 2 = 3 :: [4] := by decide
end Go.Proofs.Ytpinpipjlongaaa

/- What the pool and the document's own pool have in common: lists and functions alone. Nodes are numbered from 0 on here. -/
namespace Go.Proofs.Ytpinpipjlongaaa
set_option maxRecDepth 100000
open Go.ChangeShapes Go.WideShapes Go.ChangeAt Go.RowKit

/-- A node's handle. -/
def hdl (gen : List Int) (q : Nat) : Int := nth gen q * 4096 + ((q : Int) + 1)
/-- Has a node that is out this handle? -/
def isO (N : Nat) (gen out : List Int) (h : Int) : Bool := decide (1 ≤ h % 4096 ∧ h % 4096 ≤ (N : Int) ∧ nth out (h % 4096 - 1).toNat = 1 ∧ hdl gen (h % 4096 - 1).toNat = h)

/-- How many of a list of 0 and 1. -/
def sumTo (xs : List Int) : Nat → Int
  | 0 => 0
  | k + 1 => sumTo xs k + nth xs k

structure Same (n each : Nat) (free : Nat → List Nat) (gen out : List Int) (fr : Nat → List Int) (os : Int → Bool) (c : Nat) : Prop where
  few : n ≤ 64
  eight : each ≤ 8
  lenG : gen.length = n * each
  lenO : out.length = n * each
  gens : ∀ q, 0 ≤ nth gen q ∧ nth gen q < 262144
  outs : ∀ q, nth out q = 0 ∨ nth out q = 1
  frs : ∀ t, t < n → fr t = (free t).map (hdl gen)
  oss : ∀ h, 0 ≤ h → h < 4294967296 → os h = isO (n * each) gen out h
  cnt : (c : Int) = sumTo out (n * each)
  own : ∀ t, t < n → ∀ q, q ∈ free t → t * each ≤ q ∧ q < t * each + each ∧ nth out q = 0
  dup : ∀ t, t < n → (free t).Nodup

theorem sumTo_set {xs : List Int} {q : Nat} (hq : q < xs.length) (v : Int) : ∀ k, k ≤ xs.length → sumTo (xs.set q v) k = sumTo xs k + (if q < k then v - nth xs q else 0)
  | 0, _ => by simp [sumTo]
  | k + 1, hk => by
    unfold sumTo
    rw [sumTo_set hq v k (by omega), nth_set hq]
    by_cases e : q = k
    · subst e; simp; omega
    · rw [if_neg e]
      by_cases h : q < k
      · rw [if_pos h, if_pos (by omega)]; omega
      · rw [if_neg h, if_neg (by omega)]; omega
theorem sumTo_le {xs : List Int} (h : ∀ q, nth xs q = 0 ∨ nth xs q = 1) : ∀ k, 0 ≤ sumTo xs k ∧ sumTo xs k ≤ (k : Int)
  | 0 => by simp [sumTo]
  | k + 1 => by
    have h1 := sumTo_le h k
    have h2 := h k
    unfold sumTo
    omega
theorem sumTo_some {xs : List Int} (h : ∀ q, nth xs q = 0 ∨ nth xs q = 1) {q : Nat} (hq : nth xs q = 1) : ∀ k, q < k → 1 ≤ sumTo xs k
  | 0, hk => by omega
  | k + 1, hk => by
    unfold sumTo
    by_cases e : q = k
    · subst e; have := (sumTo_le h q).1; omega
    · have := sumTo_some h hq k (by omega); have := h k; omega

theorem nodup_len : ∀ (k a : Nat) (l : List Nat), l.Nodup → (∀ q, q ∈ l → a ≤ q ∧ q < a + k) → l.length ≤ k
  | 0, a, l, _, h => by
    cases l with
    | nil => simp
    | cons q r => have := h q (by simp); omega
  | k + 1, a, l, hd, h => by
    have h1 := nodup_len k a (l.erase (a + k)) (hd.erase _) (fun q hq => by
      have hm := (hd.mem_erase_iff.1 hq)
      have := h q hm.2
      have := hm.1
      omega)
    have h2 := List.length_erase_le (a := a + k) (l := l)
    by_cases hm : a + k ∈ l
    · have := List.length_erase_of_mem hm; omega
    · rw [List.erase_of_not_mem hm] at h1; omega

section
variable {n each c : Nat} {free : Nat → List Nat} {gen out : List Int} {fr : Nat → List Int} {os : Int → Bool}
theorem Same.le (h : Same n each free gen out fr os c) : n * each ≤ 512 := Nat.mul_le_mul h.few h.eight
theorem Same.in_ (_h : Same n each free gen out fr os c) {t q : Nat} (ht : t < n) (hq : q < t * each + each) : q < n * each := by
  have : (t + 1) * each ≤ n * each := Nat.mul_le_mul_right _ ht
  rw [Nat.add_mul, Nat.one_mul] at this
  omega
theorem hdl_facts {gen : List Int} (hg : ∀ q, 0 ≤ nth gen q ∧ nth gen q < 262144) {q : Nat} (hq : q < 512) : 0 < hdl gen q ∧ hdl gen q < 4294967296 ∧ hdl gen q % 4096 = (q : Int) + 1 ∧ hdl gen q / 4096 = nth gen q := by
  have := hg q
  unfold hdl
  omega
theorem isO_hdl {N : Nat} {gen out : List Int} (hg : ∀ q, 0 ≤ nth gen q ∧ nth gen q < 262144) {q : Nat} (hq : q < N) (hN : N ≤ 512) : isO N gen out (hdl gen q) = decide (nth out q = 1) := by
  obtain ⟨f1, f2, f3, f4⟩ := hdl_facts hg (q := q) (by omega)
  unfold isO
  rw [f3, show ((q : Int) + 1 - 1).toNat = q by omega, Bool.eq_iff_iff]
  simp
  omega
/-- Two handles of one node, each of which it has. -/
theorem isO_eq {N : Nat} {gen out : List Int} {h : Int} (hh : isO N gen out h = true) : ∃ q : Nat, q < N ∧ h % 4096 = (q : Int) + 1 ∧ nth out q = 1 ∧ hdl gen q = h := by
  unfold isO at hh
  obtain ⟨h1, h2, h3, h4⟩ := of_decide_eq_true hh
  exact ⟨(h % 4096 - 1).toNat, by omega, by omega, h3, h4⟩

/-- A node goes out. -/
theorem Same.take (h : Same n each free gen out fr os c) {t q : Nat} {rest : List Nat} (ht : t < n) (e : free t = q :: rest) :
    q < n * each ∧ nth out q = 0 ∧ fr t = hdl gen q :: rest.map (hdl gen) ∧ os (hdl gen q) = false ∧ Same n each (upd free t rest) gen (out.set q 1) (upd fr t (rest.map (hdl gen))) (turn os (hdl gen q) true) (c + 1) := by
  have hN := h.le
  obtain ⟨o1, o2, o3⟩ := h.own t ht q (by rw [e]; simp)
  have hq := h.in_ ht o2
  obtain ⟨f1, f2, f3, f4⟩ := hdl_facts h.gens (q := q) (by omega)
  have hfr : fr t = hdl gen q :: rest.map (hdl gen) := by rw [h.frs t ht, e]; rfl
  have hos : os (hdl gen q) = false := by rw [h.oss _ (by omega) f2, isO_hdl h.gens hq hN, o3]; rfl
  have hlO := h.lenO
  refine ⟨hq, o3, hfr, hos, h.few, h.eight, h.lenG, by simpa using hlO, h.gens, fun q' => ?_, fun s hs => ?_, fun x x0 x1 => ?_, ?_, fun s hs q' hm => ?_, fun s hs => ?_⟩
  · rw [nth_set (by omega)]
    split
    · exact .inr rfl
    · exact h.outs q'
  · by_cases es : s = t
    · subst es; rw [upd_same, upd_same]
    · rw [upd_other es, upd_other es]; exact h.frs s hs
  · by_cases ex : x = hdl gen q
    · subst ex
      rw [turn_same, isO_hdl h.gens hq hN, nth_set (by omega), if_pos rfl]
      rfl
    · rw [turn_other ex, h.oss x x0 x1]
      unfold isO
      rw [Bool.eq_iff_iff]
      simp only [decide_eq_true_eq]
      constructor
      · rintro ⟨a1, a2, a3, a4⟩
        refine ⟨a1, a2, ?_, a4⟩
        rw [nth_set (by omega)]
        split
        · rfl
        · exact a3
      · rintro ⟨a1, a2, a3, a4⟩
        refine ⟨a1, a2, ?_, a4⟩
        rw [nth_set (by omega), if_neg (fun e' => ex (by rw [← a4, e']))] at a3
        exact a3
  · rw [sumTo_set (by omega) 1 _ (by omega), if_pos (by omega), o3, ← h.cnt]
    omega
  · by_cases es : s = t
    · subst es
      rw [upd_same] at hm
      obtain ⟨b1, b2, b3⟩ := h.own s hs q' (by rw [e]; simp [hm])
      refine ⟨b1, b2, ?_⟩
      have hd := h.dup s hs
      rw [e] at hd
      rw [nth_set (by omega), if_neg (fun e' => by subst e'; exact (List.nodup_cons.1 hd).1 hm)]
      exact b3
    · rw [upd_other es] at hm
      obtain ⟨b1, b2, b3⟩ := h.own s hs q' hm
      refine ⟨b1, b2, ?_⟩
      have hne : q ≠ q' := by
        rintro rfl
        rcases Nat.lt_or_gt_of_ne es with hlt | hlt
        · have := Nat.mul_le_mul_right each (show s + 1 ≤ t from hlt)
          rw [Nat.add_mul, Nat.one_mul] at this; omega
        · have := Nat.mul_le_mul_right each (show t + 1 ≤ s from hlt)
          rw [Nat.add_mul, Nat.one_mul] at this; omega
      rw [nth_set (by omega), if_neg hne]
      exact b3
  · by_cases es : s = t
    · subst es
      have hd := h.dup s hs
      rw [e] at hd
      rw [upd_same]
      exact (List.nodup_cons.1 hd).2
    · rw [upd_other es]; exact h.dup s hs

/-- A node comes back. -/
theorem Same.back (h : Same n each free gen out fr os c) {x : Int} (x0 : 0 ≤ x) (x1 : x < 4294967296) (hx : os x = true) :
    ∃ t i, t < n ∧ i < each ∧ x % 4096 = ((t * each + i + 1 : Nat) : Int) ∧ (fr t).length < each ∧ 1 ≤ c ∧
      Same n each (upd free t (free t ++ [t * each + i])) (gen.set (t * each + i) ((x / 4096 + 1) % 262144)) (out.set (t * each + i) 0) (upd fr t (fr t ++ [nxt x])) (turn os x false) (c - 1) := by
  have hN := h.le
  have hO := hx
  rw [h.oss x x0 x1] at hO
  obtain ⟨q, hq, e1, e2, e3⟩ := isO_eq hO
  obtain ⟨t, i, ht, hi, he⟩ := node_or n each x (by unfold NoNode; omega)
  have hqi : q = t * each + i := by omega
  subst hqi
  have hlG := h.lenG
  have hlO := h.lenO
  have hnot : t * each + i ∉ free t := fun hm => by have := (h.own t ht _ hm).2.2; omega
  have hlen : (fr t).length < each := by
    rw [h.frs t ht, List.length_map]
    have h1 := nodup_len each (t * each) ((t * each + i) :: free t) (List.nodup_cons.2 ⟨hnot, h.dup t ht⟩) (fun q' hm => by
      rcases List.mem_cons.1 hm with rfl | hm
      · omega
      · have := h.own t ht q' hm; omega)
    simp at h1
    omega
  have hc : 1 ≤ c := by
    have h1 := sumTo_some h.outs e2 (n * each) hq
    have h2 := h.cnt
    omega
  obtain ⟨f1, f2, f3, f4⟩ := hdl_facts h.gens (q := t * each + i) (by omega)
  rw [e3] at f4
  have hgr := h.gens (t * each + i)
  have hg' : ∀ q', 0 ≤ nth (gen.set (t * each + i) ((x / 4096 + 1) % 262144)) q' ∧ nth (gen.set (t * each + i) ((x / 4096 + 1) % 262144)) q' < 262144 := fun q' => by
    rw [nth_set (by omega)]
    split
    · omega
    · exact h.gens q'
  have hkeep : ∀ q', q' ≠ t * each + i → hdl (gen.set (t * each + i) ((x / 4096 + 1) % 262144)) q' = hdl gen q' := fun q' hne => by
    unfold hdl; rw [nth_set (by omega), if_neg (fun e => hne e.symm)]
  have hnew : hdl (gen.set (t * each + i) ((x / 4096 + 1) % 262144)) (t * each + i) = nxt x := by
    unfold hdl nxt; rw [nth_set (by omega), if_pos rfl, e1]
  refine ⟨t, i, ht, hi, he, hlen, hc, h.few, h.eight, by simpa using hlG, by simpa using hlO, hg', fun q' => ?_, fun s hs => ?_, fun y y0 y1 => ?_, ?_, fun s hs q' hm => ?_, fun s hs => ?_⟩
  · rw [nth_set (by omega)]
    split
    · exact .inl rfl
    · exact h.outs q'
  · by_cases es : s = t
    · subst es
      rw [upd_same, upd_same, h.frs s hs, List.map_append, List.map_cons, List.map_nil, hnew]
      congr 1
      exact List.map_congr_left fun q' hm => (hkeep q' (fun e => hnot (e ▸ hm))).symm
    · rw [upd_other es, upd_other es, h.frs s hs]
      refine List.map_congr_left fun q' hm => (hkeep q' (fun e => ?_)).symm
      have := (h.own s hs q' hm).2.2
      rw [e] at this
      omega
  · by_cases ey : y = x
    · subst ey
      rw [turn_same]
      symm
      unfold isO
      rw [e1, show (((t * each + i : Nat) : Int) + 1 - 1).toNat = t * each + i by omega, nth_set (v := 0) (xs := out) (by omega), if_pos rfl]
      simp
    · rw [turn_other ey, h.oss y y0 y1]
      unfold isO
      rw [Bool.eq_iff_iff]
      simp only [decide_eq_true_eq]
      constructor
      · rintro ⟨a1, a2, a3, a4⟩
        have hne : (y % 4096 - 1).toNat ≠ t * each + i := fun e => ey (by rw [← a4, e, e3])
        refine ⟨a1, a2, ?_, ?_⟩
        · rw [nth_set (by omega), if_neg (fun e => hne e.symm)]; exact a3
        · rw [hkeep _ hne]; exact a4
      · rintro ⟨a1, a2, a3, a4⟩
        have hne : (y % 4096 - 1).toNat ≠ t * each + i := fun e => by
          rw [e, nth_set (by omega), if_pos rfl] at a3; omega
        refine ⟨a1, a2, ?_, ?_⟩
        · rw [nth_set (by omega), if_neg (fun e => hne e.symm)] at a3; exact a3
        · rw [hkeep _ hne] at a4; exact a4
  · rw [sumTo_set (by omega) 0 _ (by omega), if_pos (by omega), e2, ← h.cnt]
    omega
  · have hcase : q' ≠ t * each + i → nth (out.set (t * each + i) 0) q' = nth out q' := fun hne => by rw [nth_set (by omega), if_neg (fun e => hne e.symm)]
    by_cases es : s = t
    · subst es
      rw [upd_same] at hm
      rcases List.mem_append.1 hm with hm | hm
      · obtain ⟨b1, b2, b3⟩ := h.own s hs q' hm
        refine ⟨b1, b2, ?_⟩
        rw [hcase (fun e => hnot (e ▸ hm))]; exact b3
      · simp at hm
        subst hm
        refine ⟨by omega, by omega, ?_⟩
        rw [nth_set (by omega), if_pos rfl]
    · rw [upd_other es] at hm
      obtain ⟨b1, b2, b3⟩ := h.own s hs q' hm
      refine ⟨b1, b2, ?_⟩
      rw [hcase (fun e => by rw [e] at b3; omega)]; exact b3
  · by_cases es : s = t
    · subst es
      rw [upd_same]
      refine List.nodup_append.2 ⟨h.dup s hs, by simp, fun a ha b hb => ?_⟩
      simp at hb
      subst hb
      exact fun e => hnot (e ▸ ha)
    · rw [upd_other es]; exact h.dup s hs

/-- At first all are free, of generation 0. -/
def freeNew (each : Nat) : Nat → List Nat := fun t => (List.range each).map fun i => t * each + i
theorem nth_zeros (k q : Nat) : nth (List.replicate k 0) q = 0 := by
  simp [nth, List.getD_eq_getElem?_getD, List.getElem?_replicate]; split <;> rfl
theorem sumTo_zeros (N : Nat) : ∀ k, sumTo (List.replicate N 0) k = 0
  | 0 => rfl
  | k + 1 => by unfold sumTo; rw [sumTo_zeros N k, nth_zeros]; rfl
theorem same_new (n each : Nat) (hn : n ≤ 64) (he : each ≤ 8) : Same n each (freeNew each) (List.replicate (n * each) 0) (List.replicate (n * each) 0) (fun t => firsts t each each) (fun _ => false) 0 := by
  refine ⟨hn, he, by simp, by simp, fun q => by rw [nth_zeros]; omega, fun q => .inl (nth_zeros _ _), fun t ht => ?_, fun h h0 h1 => ?_, by rw [sumTo_zeros]; rfl, fun t ht q hq => ?_, fun t ht => ?_⟩
  · unfold firsts freeNew
    rw [List.map_map]
    refine List.map_congr_left fun i hi => ?_
    simp only [Function.comp, hdl, nth_zeros]
    omega
  · unfold isO
    simp [nth_zeros]
  · unfold freeNew at hq
    simp only [List.mem_map, List.mem_range] at hq
    obtain ⟨i, hi, rfl⟩ := hq
    exact ⟨by omega, by omega, nth_zeros _ _⟩
  · unfold freeNew
    exact List.Pairwise.map _ (fun a b hab e => hab (by omega)) List.nodup_range
end
end Go.Proofs.Ytpinpipjlongaaa
