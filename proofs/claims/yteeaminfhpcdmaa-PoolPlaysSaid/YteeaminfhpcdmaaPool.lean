/- What each function of layer 5 (pool) returns, and what the pool is then: one contract a function, for every pool, every number of a thread and every word. -/
import Derived.Test.YteeaminfhpcdmaaRingWordB
import Derived.Test.YteeaminfhpcdmaaHandleB
import Derived.Test.YteeaminfhpcdmaaSet
namespace Go.Proofs.Yteeaminfhpcdmaa
open Go.ChangeShapes Go.WideShapes Go.ChangeAt Go.RowKit

/-- One element is another. -/
def upd {α : Type} (f : Nat → α) (t : Nat) (v : α) : Nat → α := fun i => if i = t then v else f i
theorem upd_same {α : Type} (f : Nat → α) (t : Nat) (v : α) : upd f t v t = v := by simp [upd]
theorem upd_other {α : Type} {f : Nat → α} {t i : Nat} {v : α} (h : i ≠ t) : upd f t v i = f i := by simp [upd, h]

/-- Where a pool lies: the row of rings, the map, each ring, and each ring's places, where there are any. -/
structure PM where
  g : Nat
  b : Nat
  ps : Nat → Nat
  ogs : Nat → Option Nat
/-- The blocks that calls may change. -/
def PM.Has (M : PM) (n i : Nat) : Prop := i = M.b ∨ ∃ j, j < n ∧ (i = M.ps j ∨ M.ogs j = some i)
/-- The first k rings' pointers, as cells. -/
def ptRow (ps : Nat → Nat) (n k : Nat) : Array Value := ((List.range n).map (fun i => if i < k then Value.pointer (some ⟨ps i, 0, none⟩) else .pointer none)).toArray
theorem ptRow_at (ps : Nat → Nat) (n k i : Nat) (h : i < n) : (ptRow ps n k)[i]? = some (if i < k then Value.pointer (some ⟨ps i, 0, none⟩) else .pointer none) := by simp [ptRow, h]
theorem ptRow_made (ps : Nat → Nat) (n : Nat) : madeCells #[.pointer none] n = ptRow ps n 0 := by
  apply Array.ext
  · simp [madeCells, ptRow]
  · intro i h1 h2; simp [madeCells, ptRow, Nat.mod_one]
theorem ptRow_set (ps : Nat → Nat) (n k q : Nat) : (ptRow ps n k).setIfInBounds k (.pointer (some ⟨q, 0, none⟩)) = ptRow (upd ps k q) n (k + 1) := by
  unfold ptRow
  rw [List.setIfInBounds_toArray]
  congr 1
  apply List.ext_getElem?
  intro i
  simp only [List.getElem?_set, List.length_map, List.length_range, List.getElem?_map]
  by_cases hi : i < n
  · rw [List.getElem?_range hi]
    by_cases e : k = i
    · subst e; simp [hi, upd_same]
    · have h1 : (i < k + 1) ↔ i < k := by omega
      have h2 : upd ps k q i = ps i := upd_other (fun h => e h.symm)
      simp [e, h1, h2]
  · rw [List.getElem?_eq_none (by simpa using hi)]
    simp; omega

/-- A pool of n threads with each nodes: fr are the free handles of each thread in order; os says which handles are out, they are c. -/
structure Pl (w : World) (p n each : Nat) (M : PM) (fr : Nat → List Int) (os : Int → Bool) (c : Nat) : Prop where
  ptr : Bk w p 55 #[.int .i64 each, .slice (some ⟨M.g, 0, none⟩) n n, .map (some M.b)]
  row : Bk w M.g 56 (ptRow M.ps n n)
  rings : ∀ i, i < n → RWord.Rg w (M.ps i) (M.ogs i) each (fr i)
  set : Outs w M.b os c
  psne : ∀ i j, i < n → j < n → i ≠ j → M.ps i ≠ M.ps j
  ogne : ∀ i j g, i < n → j < n → i ≠ j → M.ogs i = some g → M.ogs j ≠ some g
  few : n ≤ 64
  one : 1 ≤ n
  eight : each ≤ 8

theorem Rg_hd {w : World} {p : Nat} {og : Option Nat} {r : Nat} {vs : List Int} (h : RWord.Rg w p og r vs) : ∃ cs, Bk w p 67 cs := by
  obtain ⟨n, f, cs, h⟩ := h; exact ⟨_, h.hd⟩
theorem Rg_row {w : World} {p g : Nat} {og : Option Nat} {r : Nat} {vs : List Int} (h : RWord.Rg w p og r vs) (e : og = some g) : ∃ cs, Bk w g 31 cs := by
  obtain ⟨n, f, cs, h⟩ := h; exact ⟨_, h.row g e⟩

section
variable {w w' : World} {p n each c : Nat} {M : PM} {fr : Nat → List Int} {os : Int → Bool}
theorem Pl.c0 (h : Pl w p n each M fr os c) : w.cell? ⟨p, 0, none⟩ = some (.int .i64 each) := by rw [h.ptr.cell]; rfl
theorem Pl.c1 (h : Pl w p n each M fr os c) : w.cell? ⟨p, 1, none⟩ = some (.slice (some ⟨M.g, 0, none⟩) n n) := by rw [h.ptr.cell]; rfl
theorem Pl.c2 (h : Pl w p n each M fr os c) : w.cell? ⟨p, 2, none⟩ = some (.map (some M.b)) := by rw [h.ptr.cell]; rfl
theorem Pl.at_ (h : Pl w p n each M fr os c) {i : Nat} (hi : i < n) : w.cell? ⟨M.g, i, none⟩ = some (.pointer (some ⟨M.ps i, 0, none⟩)) := by rw [h.row.cell, ptRow_at _ _ _ _ hi, if_pos hi]
theorem Pl.drewN (h : Pl w p n each M fr os c) (m : Nat) : Pl (w.drewN m) p n each M fr os c := ⟨h.ptr, h.row, fun i hi => (h.rings i hi).draws m, h.set, h.psne, h.ogne, h.few, h.one, h.eight⟩
theorem Pl.lt (h : Pl w p n each M fr os c) {i : Nat} (k : M.Has n i) : i < w.heap.size := by
  rcases k with rfl | ⟨j, hj, rfl | e⟩
  · exact h.set.lt
  · exact (h.rings j hj).p_lt
  · exact (h.rings j hj).g_lt e
theorem Pl.p_lt (h : Pl w p n each M fr os c) : p < w.heap.size := h.ptr.lt
theorem Pl.g_lt (h : Pl w p n each M fr os c) : M.g < w.heap.size := h.row.lt
/-- Whatever else is cells of another type isn't the pool's. -/
theorem Pl.not_has {q : Nat} {t : TypeId} {cs : Array Value} (h : Pl w p n each M fr os c) (k : Bk w q t cs) (h1 : t ≠ 67) (h2 : t ≠ 31) : ¬ M.Has n q := by
  rintro (e | ⟨j, hj, e | e⟩)
  · exact h.set.not_bk k e.symm
  · obtain ⟨cs', hb⟩ := Rg_hd (h.rings j hj)
    exact Bk.unlike k hb h1 e
  · obtain ⟨cs', hb⟩ := Rg_row (h.rings j hj) e
    exact Bk.unlike k hb h2 rfl
theorem Pl.kept {S : Nat → Prop} (h : Pl w p n each M fr os c) (k : Within w w' S) (h1 : ¬ S p) (h2 : ¬ S M.g) (h3 : ∀ i, M.Has n i → ¬ S i) : Pl w' p n each M fr os c :=
  ⟨h.ptr.within k h1, h.row.within k h2, fun i hi => (h.rings i hi).kept k (h3 _ (.inr ⟨i, hi, .inl rfl⟩)) (fun _ e => h3 _ (.inr ⟨i, hi, .inr e⟩)), h.set.within k (h3 _ (.inl rfl)), h.psne, h.ogne, h.few, h.one, h.eight⟩
theorem Pl.grown (h : Pl w p n each M fr os c) (k : w.grownBy w' none) : Pl w' p n each M fr os c := h.kept (S := fun _ => False) (.of_grown k (by simp)) (by simp) (by simp) (by simp)

/-- One ring has become another. -/
theorem Pl.ring (h : Pl w p n each M fr os c) {t : Nat} (ht : t < n) {og : Option Nat} {vs : List Int} (hr : RWord.Rg w' (M.ps t) og each vs) (k : Moved w (M.ps t) (M.ogs t) w' og) :
    Pl w' p n each { M with ogs := upd M.ogs t og } (upd fr t vs) os c := by
  obtain ⟨k1, k2⟩ := k
  have hin : ∀ i, (i = M.ps t ∨ some i = M.ogs t) → M.Has n i := fun i e => .inr ⟨t, ht, e.imp id Eq.symm⟩
  have hp : ¬ (p = M.ps t ∨ some p = M.ogs t) := fun e => h.not_has h.ptr (by decide) (by decide) (hin _ e)
  have hg : ¬ (M.g = M.ps t ∨ some M.g = M.ogs t) := fun e => h.not_has h.row (by decide) (by decide) (hin _ e)
  have hb : ¬ (M.b = M.ps t ∨ some M.b = M.ogs t) := by
    rintro (e | e)
    · obtain ⟨cs, hc⟩ := Rg_hd (h.rings t ht); exact h.set.not_bk hc e
    · obtain ⟨cs, hc⟩ := Rg_row (h.rings t ht) e.symm; exact h.set.not_bk hc rfl
  refine ⟨h.ptr.within k2 hp, h.row.within k2 hg, fun i hi => ?_, h.set.within k2 hb, h.psne, fun i j g hi hj hne => ?_, h.few, h.one, h.eight⟩
  · by_cases e : i = t
    · subst e; simp only [upd_same]; exact hr
    · simp only [upd_other e]
      refine (h.rings i hi).kept k2 ?_ (fun g eg => ?_)
      · rintro (e' | e')
        · exact h.psne i t hi ht e e'
        · obtain ⟨cs, hc⟩ := Rg_hd (h.rings i hi)
          obtain ⟨cs', hc'⟩ := Rg_row (h.rings t ht) e'.symm
          exact Bk.unlike hc hc' (by decide) rfl
      · rintro (e' | e')
        · obtain ⟨cs, hc⟩ := Rg_row (h.rings i hi) eg
          obtain ⟨cs', hc'⟩ := Rg_hd (h.rings t ht)
          exact Bk.unlike hc hc' (by decide) e'
        · exact h.ogne i t g hi ht e eg e'.symm
  · intro e1 e2
    by_cases ei : i = t
    · subst ei
      simp only [upd_same, upd_other (fun e => hne e.symm)] at e1 e2
      rcases k1 with e | ⟨g', e, hg'⟩
      · rw [e] at e1; exact h.ogne i j g hi hj hne e1 e2
      · rw [e] at e1; injection e1 with e1; subst e1
        have := (h.rings j hj).g_lt e2; omega
    · simp only [upd_other ei] at e1
      by_cases ej : j = t
      · subst ej
        simp only [upd_same] at e2
        rcases k1 with e | ⟨g', e, hg'⟩
        · rw [e] at e2; exact h.ogne i j g hi hj hne e1 e2
        · rw [e] at e2; injection e2 with e2; subst e2
          have := (h.rings i hi).g_lt e1; omega
      · simp only [upd_other ej] at e2
        exact h.ogne i j g hi hj hne e1 e2
/-- The map has become another. -/
theorem Pl.outs (h : Pl w p n each M fr os c) {os' : Int → Bool} {c' : Nat} (ho : Outs w' M.b os' c') (k : Only w w' M.b) : Pl w' p n each M fr os' c' := by
  have k' : Within w w' (fun i => i = M.b) := .of_grown k (by simp)
  refine ⟨h.ptr.within k' (fun e => h.set.not_bk h.ptr e.symm), h.row.within k' (fun e => h.set.not_bk h.row e.symm), fun i hi => ?_, ho, h.psne, h.ogne, h.few, h.one, h.eight⟩
  refine (h.rings i hi).kept k' (fun e => ?_) (fun g eg e => ?_)
  · obtain ⟨cs, hc⟩ := Rg_hd (h.rings i hi); exact h.set.not_bk hc e.symm
  · obtain ⟨cs, hc⟩ := Rg_row (h.rings i hi) eg; exact h.set.not_bk hc e.symm

/-- Behind a call: only what is the pool's has changed; what is the pool's now was so, or is new. -/
def Stays (w : World) (n : Nat) (M : PM) (w' : World) (M' : PM) : Prop := M'.g = M.g ∧ Within w w' (M.Has n) ∧ ∀ i, M'.Has n i → M.Has n i ∨ w.heap.size ≤ i
theorem Stays.refl (w : World) (n : Nat) (M : PM) : Stays w n M w M := ⟨rfl, Within.refl _ _, fun _ h => .inl h⟩
theorem Stays.draws {M' : PM} (h : Stays w n M w' M') (m : Nat) : Stays w n M (w'.drewN m) M' := ⟨h.1, h.2.1.draws m, h.2.2⟩
theorem Stays.then_ {w'' : World} {M' M'' : PM} (h : Stays w n M w' M') (k : Stays w' n M' w'' M'') : Stays w n M w'' M'' :=
  ⟨k.1.trans h.1, h.2.1.then_ k.2.1 h.2.2, fun i hi => by
    rcases k.2.2 i hi with e | e
    · exact h.2.2 i e
    · exact .inr (Nat.le_trans h.2.1.size e)⟩
theorem Stays.ring {t : Nat} (ht : t < n) {og : Option Nat} (k : Moved w (M.ps t) (M.ogs t) w' og) : Stays w n M w' { M with ogs := upd M.ogs t og } := by
  refine ⟨rfl, k.2.wide (fun i e _ => .inr ⟨t, ht, e.imp id Eq.symm⟩), fun i hi => ?_⟩
  rcases hi with e | ⟨j, hj, e | e⟩
  · exact .inl (.inl e)
  · exact .inl (.inr ⟨j, hj, .inl e⟩)
  · by_cases ej : j = t
    · subst ej
      simp only [upd_same] at e
      rcases k.1 with e' | ⟨g', e', hg⟩
      · rw [e'] at e; exact .inl (.inr ⟨j, hj, .inr e⟩)
      · rw [e'] at e; injection e with e; subst e; exact .inr hg
    · simp only [upd_other ej] at e
      exact .inl (.inr ⟨j, hj, .inr e⟩)
theorem Stays.outs (k : Only w w' M.b) : Stays w n M w' M := ⟨rfl, .of_grown k (fun i e => .inl (.inl (by injection e with e; exact e.symm))), fun _ h => .inl h⟩

theorem plThread (h : Pl w p n each M fr os c) (t : Nat) (ht : t < n) :
    Calls Try.prog 27 #[.pointer (some ⟨p, 0, none⟩), .int .i64 t] w fun e w' => e = .returned (.bool true) ∧ w = w' := by
  have h0 := h.c1
  have hf := h.few
  go_enter Try.func27, Try.ntmps27
  go_wp2
  go_ret
  exact ⟨rfl, rfl⟩

theorem plThreadNo (h : Pl w p n each M fr os c) (t : Int) (ht : t < 0 ∨ n ≤ t) :
    Calls Try.prog 27 #[.pointer (some ⟨p, 0, none⟩), .int .i64 t] w fun e w' => e = .returned (.bool false) ∧ w = w' := by
  have h0 := h.c1
  have hf := h.few
  rcases ht with ht | ht
  · go_enter Try.func27, Try.ntmps27
    go_wp2
    go_ret
    exact ⟨rfl, rfl⟩
  · have h1 : 0 ≤ t := by omega
    go_enter Try.func27, Try.ntmps27
    go_wp2
    go_ret
    exact ⟨ret_bool (decide_eq_false (by omega)), rfl⟩

theorem plIs (h : Pl w p n each M fr os c) (x : Int) (h0 : 0 ≤ x) (h1 : x < 4294967296) :
    Calls Try.prog 10 #[.pointer (some ⟨p, 0, none⟩), .int .u32 x] w fun e w' => e = .returned (.bool (os x)) ∧ w = w' := by
  have c2 := h.c2
  have hl := h.set.look h0 h1
  go_enter Try.func10, Try.ntmps10
  go_wp2
  go_ret
  exact ⟨rfl, rfl⟩

theorem plTotal (h : Pl w p n each M fr os c) :
    Calls Try.prog 18 #[.pointer (some ⟨p, 0, none⟩)] w fun e w' => e = .returned (.int .i64 c) ∧ w = w' := by
  have c2 := h.c2
  have hl := h.set.len
  go_enter Try.func18, Try.ntmps18
  go_wp2
  go_ret
  exact ⟨rfl, rfl⟩

theorem plOut (h : Pl w p n each M fr os c) (t : Nat) (ht : t < n) :
    Calls Try.prog 19 #[.pointer (some ⟨p, 0, none⟩), .int .i64 t] w fun e w' => e = .returned (.int .i64 ((each - (fr t).length : Nat) : Int)) ∧ ∃ m, w' = w.drewN m := by
  have c1 := h.c1
  have c2 := h.at_ ht
  have hf := h.few
  go_enter Try.func19, Try.ntmps19
  go_wp2_with fail
  refine (plThread h t ht).mono ?_
  rintro e w' ⟨rfl, rfl⟩
  go_wp2_with fail
  refine (RWord.room_rg (h.rings t ht)).mono ?_
  rintro e w' ⟨rfl, m, rfl⟩
  go_wp2
  go_ret
  exact ⟨rfl, _, rfl⟩

theorem plOutNo (h : Pl w p n each M fr os c) (t : Int) (ht : t < 0 ∨ n ≤ t) :
    Calls Try.prog 19 #[.pointer (some ⟨p, 0, none⟩), .int .i64 t] w fun e w' => e = .returned (.int .i64 0) ∧ w = w' := by
  go_enter Try.func19, Try.ntmps19
  go_wp2_with fail
  refine (plThreadNo h t ht).mono ?_
  rintro e w' ⟨rfl, rfl⟩
  go_wp2
  go_ret
  exact ⟨rfl, rfl⟩

theorem plTakeNo (h : Pl w p n each M fr os c) (t : Int) (ht : t < 0 ∨ n ≤ t) :
    Calls Try.prog 14 #[.pointer (some ⟨p, 0, none⟩), .int .i64 t] w fun e w' => e = .returned (.tuple #[.int .u32 0, .int .i64 4]) ∧ w = w' := by
  go_enter Try.func14, Try.ntmps14
  go_wp2_with fail
  refine (plThreadNo h t ht).mono ?_
  rintro e w' ⟨rfl, rfl⟩
  go_wp2
  go_ret2
  exact ⟨rfl, rfl⟩

theorem plTakeNone (h : Pl w p n each M fr os c) (t : Nat) (ht : t < n) (he : fr t = []) :
    Calls Try.prog 14 #[.pointer (some ⟨p, 0, none⟩), .int .i64 t] w fun e w' => e = .returned (.tuple #[.int .u32 0, .int .i64 0]) ∧ w = w' := by
  have c1 := h.c1
  have c2 := h.at_ ht
  have hf := h.few
  have hr := h.rings t ht
  rw [he] at hr
  go_enter Try.func14, Try.ntmps14
  go_wp2_with fail
  refine (plThread h t ht).mono ?_
  rintro e w' ⟨rfl, rfl⟩
  go_wp2_with fail
  refine (RWord.take_no hr).mono ?_
  rintro e w' ⟨rfl, rfl⟩
  go_wp2
  go_ret2
  exact ⟨rfl, rfl⟩

/-- Behind a Take: the first free one is out. -/
def Taken (w : World) (p n each : Nat) (M : PM) (fr : Nat → List Int) (os : Int → Bool) (c t : Nat) (x : Int) (vs : List Int) (e : Ending) (w' : World) : Prop :=
  ∃ M', e = .returned (.tuple #[.int .u32 x, .int .i64 0]) ∧ Pl w' p n each M' (upd fr t vs) (turn os x true) (c + 1) ∧ Stays w n M w' M'

theorem plTake (h : Pl w p n each M fr os c) (hc : c < 1000000) (t : Nat) (ht : t < n) {x : Int} {vs : List Int} (he : fr t = x :: vs) (h0 : 0 ≤ x) (h1 : x < 4294967296) (hx : os x = false) :
    Calls Try.prog 14 #[.pointer (some ⟨p, 0, none⟩), .int .i64 t] w (Taken w p n each M fr os c t x vs) := by
  have c1 := h.c1
  have c2 := h.at_ ht
  have hf := h.few
  have hr := h.rings t ht
  rw [he] at hr
  go_enter Try.func14, Try.ntmps14
  go_wp2_with fail
  refine (plThread h t ht).mono ?_
  rintro e w' ⟨rfl, rfl⟩
  go_wp2_with fail
  refine (RWord.take_ok hr).mono ?_
  rintro e w2 ⟨rfl, hr2, hw2⟩
  have hmv : Moved w (M.ps t) (M.ogs t) w2 (M.ogs t) := ⟨.inl rfl, hw2⟩
  have hp2 := h.ring ht hr2 hmv
  have hs2 := Stays.ring (n := n) ht hmv
  clear c1 c2 hr
  have d2 := hp2.c2
  obtain ⟨w3, hup, ho, hg⟩ := hp2.set.add hc h0 h1 hx
  simp only at d2 hup ho hg
  have HP := Lib.hid hp2
  have HS := Lib.hid hs2
  clear hp2 hs2
  go_wp2
  go_ret2
  exact ⟨_, rfl, HP.out.outs ho hg, HS.out.then_ (Stays.outs hg)⟩
end
end Go.Proofs.Yteeaminfhpcdmaa
