/- What the document's own functions of layer 11 return, and what its numbers of each thread are then: contracts, for every thread that there is. -/
import Derived.Test.YtjdnellafephfaaInts
import Derived.Deep.QuietTactic
import Derived.BigQuiet
import Derived.BigRegion
import Derived.Deep.Cut
import Derived.StillTailTactics
import Derived.Deep.RegionHeld3
import Derived.RegionTactic
import Derived.Laws.Pointers
namespace Go.Proofs.Ytjdnellafephfaa
open Go.ChangeShapes Go.WideShapes Go.ChangeAt Go.RowKit

/-- Ints as cells. -/
def intC (xs : List Int) : Array Value := (xs.map (Value.int .i64)).toArray
theorem intC_at (xs : List Int) (i : Nat) (h : i < xs.length) : (intC xs)[i]? = some (.int .i64 (nth xs i)) := by simp [intC, h, nth]
theorem intC_set (xs : List Int) (i : Nat) (v : Int) : (intC xs).setIfInBounds i (.int .i64 v) = intC (xs.set i v) := by
  unfold intC; rw [List.setIfInBounds_toArray, List.map_set]
theorem intC_made (n : Nat) : madeCells #[.int .i64 0] n = intC (List.replicate n 0) := by
  apply Array.ext
  · simp [madeCells, intC]
  · intro i h1 h2; simp [madeCells, intC, Nat.mod_one]

/-- The document's waits: of each thread its looks, whether it sleeps, where, whether it has a permit. The struct is block x, the lists are the blocks l, s, a, m. -/
structure Rf (w : World) (x l s a m n : Nat) (sp : Int) (L S A M : List Int) : Prop where
  hd : Bk w x 34 #[.int .i64 sp, .slice (some ⟨l, 0, none⟩) n n, .slice (some ⟨s, 0, none⟩) n n, .slice (some ⟨a, 0, none⟩) n n, .slice (some ⟨m, 0, none⟩) n n]
  rl : Bk w l 3 (intC L)
  rs : Bk w s 3 (intC S)
  ra : Bk w a 3 (intC A)
  rm : Bk w m 3 (intC M)
  len : L.length = n ∧ S.length = n ∧ A.length = n ∧ M.length = n
  few : n ≤ 64
  ls : l ≠ s
  la : l ≠ a
  lm : l ≠ m
  sa : s ≠ a
  sm : s ≠ m
  am : a ≠ m

/-- The blocks that calls may change. -/
def InRf (l s a m b : Nat) : Prop := b = l ∨ b = s ∨ b = a ∨ b = m

section
variable {w w' : World} {x l s a m n : Nat} {sp : Int} {L S A M : List Int}
theorem Rf.kept {T : Nat → Prop} (h : Rf w x l s a m n sp L S A M) (k : Within w w' T) (hx : ¬ T x) (hr : ∀ b, InRf l s a m b → ¬ T b) : Rf w' x l s a m n sp L S A M :=
  ⟨h.hd.within k hx, h.rl.within k (hr _ (.inl rfl)), h.rs.within k (hr _ (.inr (.inl rfl))), h.ra.within k (hr _ (.inr (.inr (.inl rfl)))), h.rm.within k (hr _ (.inr (.inr (.inr rfl)))), h.len, h.few, h.ls, h.la, h.lm, h.sa, h.sm, h.am⟩
theorem Rf.grown (h : Rf w x l s a m n sp L S A M) (k : w.grownBy w' none) : Rf w' x l s a m n sp L S A M := h.kept (T := fun _ => False) (.of_grown k (by simp)) (by simp) (by simp)
theorem Rf.drewN (h : Rf w x l s a m n sp L S A M) (k : Nat) : Rf (w.drewN k) x l s a m n sp L S A M := ⟨h.hd, h.rl, h.rs, h.ra, h.rm, h.len, h.few, h.ls, h.la, h.lm, h.sa, h.sm, h.am⟩
theorem Rf.c0 (h : Rf w x l s a m n sp L S A M) : w.cell? ⟨x, 0, none⟩ = some (.int .i64 sp) := by rw [h.hd.cell]; rfl
theorem Rf.c1 (h : Rf w x l s a m n sp L S A M) : w.cell? ⟨x, 1, none⟩ = some (.slice (some ⟨l, 0, none⟩) n n) := by rw [h.hd.cell]; rfl
theorem Rf.c2 (h : Rf w x l s a m n sp L S A M) : w.cell? ⟨x, 2, none⟩ = some (.slice (some ⟨s, 0, none⟩) n n) := by rw [h.hd.cell]; rfl
theorem Rf.c3 (h : Rf w x l s a m n sp L S A M) : w.cell? ⟨x, 3, none⟩ = some (.slice (some ⟨a, 0, none⟩) n n) := by rw [h.hd.cell]; rfl
theorem Rf.c4 (h : Rf w x l s a m n sp L S A M) : w.cell? ⟨x, 4, none⟩ = some (.slice (some ⟨m, 0, none⟩) n n) := by rw [h.hd.cell]; rfl
theorem Rf.al (h : Rf w x l s a m n sp L S A M) {t : Nat} (ht : t < n) : w.cell? ⟨l, t, none⟩ = some (.int .i64 (nth L t)) := by rw [h.rl.cell, intC_at _ _ (by rw [h.len.1]; exact ht)]
theorem Rf.as (h : Rf w x l s a m n sp L S A M) {t : Nat} (ht : t < n) : w.cell? ⟨s, t, none⟩ = some (.int .i64 (nth S t)) := by rw [h.rs.cell, intC_at _ _ (by rw [h.len.2.1]; exact ht)]
theorem Rf.aa (h : Rf w x l s a m n sp L S A M) {t : Nat} (ht : t < n) : w.cell? ⟨a, t, none⟩ = some (.int .i64 (nth A t)) := by rw [h.ra.cell, intC_at _ _ (by rw [h.len.2.2.1]; exact ht)]
theorem Rf.aM (h : Rf w x l s a m n sp L S A M) {t : Nat} (ht : t < n) : w.cell? ⟨m, t, none⟩ = some (.int .i64 (nth M t)) := by rw [h.rm.cell, intC_at _ _ (by rw [h.len.2.2.2]; exact ht)]
theorem Rf.xne (h : Rf w x l s a m n sp L S A M) : x ≠ l ∧ x ≠ s ∧ x ≠ a ∧ x ≠ m := ⟨h.hd.unlike h.rl (by decide), h.hd.unlike h.rs (by decide), h.hd.unlike h.ra (by decide), h.hd.unlike h.rm (by decide)⟩
theorem Rf.putL (h : Rf w x l s a m n sp L S A M) (t : Nat) (v : Int) : Rf (w.setCell ⟨l, t, none⟩ (.int .i64 v)) x l s a m n sp (L.set t v) S A M :=
  ⟨h.hd.off (p := ⟨l, t, none⟩) h.xne.1 _, by have := h.rl.put t (.int .i64 v); rw [intC_set] at this; exact this, h.rs.off (p := ⟨l, t, none⟩) h.ls.symm _, h.ra.off (p := ⟨l, t, none⟩) h.la.symm _, h.rm.off (p := ⟨l, t, none⟩) h.lm.symm _, by simpa using h.len, h.few, h.ls, h.la, h.lm, h.sa, h.sm, h.am⟩
theorem Rf.putS (h : Rf w x l s a m n sp L S A M) (t : Nat) (v : Int) : Rf (w.setCell ⟨s, t, none⟩ (.int .i64 v)) x l s a m n sp L (S.set t v) A M :=
  ⟨h.hd.off (p := ⟨s, t, none⟩) h.xne.2.1 _, h.rl.off (p := ⟨s, t, none⟩) h.ls _, by have := h.rs.put t (.int .i64 v); rw [intC_set] at this; exact this, h.ra.off (p := ⟨s, t, none⟩) h.sa.symm _, h.rm.off (p := ⟨s, t, none⟩) h.sm.symm _, by simpa using h.len, h.few, h.ls, h.la, h.lm, h.sa, h.sm, h.am⟩
theorem Rf.putA (h : Rf w x l s a m n sp L S A M) (t : Nat) (v : Int) : Rf (w.setCell ⟨a, t, none⟩ (.int .i64 v)) x l s a m n sp L S (A.set t v) M :=
  ⟨h.hd.off (p := ⟨a, t, none⟩) h.xne.2.2.1 _, h.rl.off (p := ⟨a, t, none⟩) h.la _, h.rs.off (p := ⟨a, t, none⟩) h.sa _, by have := h.ra.put t (.int .i64 v); rw [intC_set] at this; exact this, h.rm.off (p := ⟨a, t, none⟩) h.am.symm _, by simpa using h.len, h.few, h.ls, h.la, h.lm, h.sa, h.sm, h.am⟩
theorem Rf.putM (h : Rf w x l s a m n sp L S A M) (t : Nat) (v : Int) : Rf (w.setCell ⟨m, t, none⟩ (.int .i64 v)) x l s a m n sp L S A (M.set t v) :=
  ⟨h.hd.off (p := ⟨m, t, none⟩) h.xne.2.2.2 _, h.rl.off (p := ⟨m, t, none⟩) h.lm _, h.rs.off (p := ⟨m, t, none⟩) h.sm _, h.ra.off (p := ⟨m, t, none⟩) h.am _, by have := h.rm.put t (.int .i64 v); rw [intC_set] at this; exact this, by simpa using h.len, h.few, h.ls, h.la, h.lm, h.sa, h.sm, h.am⟩

/-- Behind a call: what it answers, what the numbers are; nothing else has changed. -/
def RfP (w : World) (x l s a m n : Nat) (sp : Int) (v : Value) (L S A M : List Int) (e : Ending) (w' : World) : Prop :=
  e = .returned v ∧ Rf w' x l s a m n sp L S A M ∧ Within w w' (InRf l s a m)

theorem rfParked (h : Rf w x l s a m n sp L S A M) (t : Nat) (ht : t < n) :
    Calls Try.prog 20 #[.pointer (some ⟨x, 0, none⟩), .int .i64 t] w fun e w' => e = .returned (.int .i64 (if nth S t = 0 ∨ nth M t = 1 then -1 else nth A t)) ∧ w = w' := by
  have h2 := h.c2
  have h3 := h.c3
  have h4 := h.c4
  have hf := h.few
  have as_ := h.as ht
  have aa_ := h.aa ht
  have am_ := h.aM ht
  generalize nth S t = S0 at as_ ⊢
  generalize nth M t = M0 at am_ ⊢
  generalize nth A t = A0 at aa_ ⊢
  by_cases hS : S0 = 0
  · subst hS
    rw [if_pos (.inl rfl)]
    go_enter Try.func20, Try.ntmps20
    go_wp2
    go_ret
    exact ⟨rfl, rfl⟩
  · have hS1 : (S0 == 0) = false := by simpa using hS
    by_cases hM : M0 = 1
    · subst hM
      rw [if_pos (.inr rfl)]
      clear hS
      go_enter Try.func20, Try.ntmps20
      go_wp2
      go_ret
      exact ⟨rfl, rfl⟩
    · rw [if_neg (by simp [hS, hM])]
      have hM1 : (M0 == 1) = false := by simpa using hM
      clear hS hM
      go_enter Try.func20, Try.ntmps20
      go_wp2
      go_ret
      exact ⟨rfl, rfl⟩

theorem rfWake (h : Rf w x l s a m n sp L S A M) (t : Nat) (ht : t < n) :
    Calls Try.prog 16 #[.pointer (some ⟨x, 0, none⟩), .int .i64 t] w (RfP w x l s a m n sp (.int .i64 (if nth S t = 0 ∨ nth M t = 1 then 0 else 1)) L S A (if nth S t = 0 ∨ nth M t = 1 then M else M.set t 1)) := by
  have h2 := h.c2
  have h4 := h.c4
  have hf := h.few
  have as_ := h.as ht
  have am_ := h.aM ht
  have z := h.rm.free t
  generalize nth S t = S0 at as_ ⊢
  generalize nth M t = M0 at am_ ⊢
  by_cases hS : S0 = 0
  · subst hS
    rw [if_pos (.inl rfl), if_pos (.inl rfl)]
    go_enter Try.func16, Try.ntmps16
    go_wp2
    go_ret
    exact ⟨rfl, h, Within.refl _ _⟩
  · have hS1 : (S0 == 0) = false := by simpa using hS
    by_cases hM : M0 = 1
    · subst hM
      rw [if_pos (.inr rfl), if_pos (.inr rfl)]
      clear hS
      go_enter Try.func16, Try.ntmps16
      go_wp2
      go_ret
      exact ⟨rfl, h, Within.refl _ _⟩
    · rw [if_neg (by simp [hS, hM]), if_neg (by simp [hS, hM])]
      have hM1 : (M0 == 1) = false := by simpa using hM
      clear hS hM
      go_enter Try.func16, Try.ntmps16
      go_wp2
      go_ret
      exact ⟨rfl, h.putM t 1, (Within.refl _ _).put _ _ _ (.inl (.inr (.inr (.inr rfl))))⟩

theorem rfResume (h : Rf w x l s a m n sp L S A M) (t : Nat) (ht : t < n) :
    Calls Try.prog 18 #[.pointer (some ⟨x, 0, none⟩), .int .i64 t] w
      (RfP w x l s a m n sp (.int .i64 (if nth S t = 0 then 1 else if nth M t = 0 then 0 else 1)) (if nth S t = 0 ∨ nth M t = 0 then L else L.set t 0) (if nth S t = 0 ∨ nth M t = 0 then S else S.set t 0) A (if nth S t = 0 ∨ nth M t = 0 then M else M.set t 0)) := by
  have h1 := h.c1
  have h2 := h.c2
  have h4 := h.c4
  have hf := h.few
  have al_ := h.al ht
  have as_ := h.as ht
  have am_ := h.aM ht
  have z1 := h.rl.free t
  have z2 := h.rs.free t
  have z3 := h.rm.free t
  generalize nth L t = L0 at al_ ⊢
  generalize nth S t = S0 at as_ ⊢
  generalize nth M t = M0 at am_ ⊢
  by_cases hS : S0 = 0
  · subst hS
    simp only [true_or, if_true]
    go_enter Try.func18, Try.ntmps18
    go_wp2
    go_ret
    exact ⟨rfl, h, Within.refl _ _⟩
  · have hS1 : (S0 == 0) = false := by simpa using hS
    by_cases hM : M0 = 0
    · subst hM
      simp only [hS, or_true, if_true, if_false]
      clear hS
      go_enter Try.func18, Try.ntmps18
      go_wp2
      go_ret
      exact ⟨rfl, h, Within.refl _ _⟩
    · simp only [hS, hM, false_or, if_false]
      have hM1 : (M0 == 0) = false := by simpa using hM
      clear hS hM
      have n1 := h.ls
      have n2 := h.lm
      have n3 := h.sm
      have b3 : (t : Int) < n := by omega
      obtain ⟨x1, x2, x3, x4⟩ := h.xne
      go_enter Try.func18, Try.ntmps18
      go_wp2
      go_big_region
      all_goals go_wp2
      all_goals go_ret
      exact ⟨rfl, (((h.putL t 0).putS t 0).putM t 0).drewN 1, ((((Within.refl w _).put l _ _ (.inl (.inl rfl))).put s _ _ (.inl (.inr (.inl rfl)))).put m _ _ (.inl (.inr (.inr (.inr rfl))))).draws 1⟩

theorem rfLook (h : Rf w x l s a m n sp L S A M) (t : Nat) (ht : t < n) (h0 : 0 ≤ nth L t) (h1' : nth L t < 2000) (v : Int) :
    Calls Try.prog 11 #[.pointer (some ⟨x, 0, none⟩), .int .i64 t, .int .i64 v] w
      (RfP w x l s a m n sp (.int .i64 (if nth L t + 1 < sp then 0 else 1)) (L.set t (if nth L t + 1 < sp then nth L t + 1 else 0)) (if nth L t + 1 < sp then S else S.set t 1) (if nth L t + 1 < sp then A else A.set t v) (if nth L t + 1 < sp then M else M.set t 0)) := by
  have c0 := h.c0
  have h1 := h.c1
  have h2 := h.c2
  have h3 := h.c3
  have h4 := h.c4
  have hf := h.few
  have hln := h.len
  have al_ := h.al ht
  have as_ := h.as ht
  have aa_ := h.aa ht
  have am_ := h.aM ht
  have z1 := h.rl.free t
  have z2 := h.rs.free t
  have z3 := h.rm.free t
  have z4 := h.ra.free t
  have n1 := h.ls
  have n2 := h.lm
  have n3 := h.sm
  have n4 := h.la
  have n5 := h.sa
  have n6 := h.am
  have b3 : (t : Int) < n := by omega
  obtain ⟨x1, x2, x3, x4⟩ := h.xne
  have hP := h.putL t (nth L t + 1)
  have hl2 : ∀ u, (L.set t (nth L t + 1)).set t u = L.set t u := fun u => by rw [List.set_set]
  generalize nth S t = S0 at as_ ⊢
  generalize nth M t = M0 at am_ ⊢
  generalize nth A t = A0 at aa_ ⊢
  generalize nth L t = L0 at al_ h0 h1' hP hl2 ⊢
  have HP := Lib.hid hP
  clear hP
  by_cases hlt : L0 + 1 < sp
  · rw [if_pos hlt, if_pos hlt, if_pos hlt, if_pos hlt, if_pos hlt]
    go_enter Try.func11, Try.ntmps11
    go_wp2
    go_quiet (fail)
    go_wp2
    go_ret
    exact ⟨rfl, HP.out.drewN _, ((Within.refl w _).put l _ _ (.inl (.inl rfl))).draws _⟩
  · rw [if_neg hlt, if_neg hlt, if_neg hlt, if_neg hlt, if_neg hlt]
    have hlt' : decide (L0 + 1 < sp) = false := decide_eq_false hlt
    go_enter Try.func11, Try.ntmps11
    go_wp2
    go_quiet (fail)
    clear h1 h2 h3 h4 al_ as_ aa_ am_ z1 z2 z3 z4 c0
    go_upto_region 4 with fail
    have hq := HP.out.drewN nq
    have hWq := ((Within.refl w (InRf l s a m)).put l t (.int .i64 (L0 + 1)) (.inl (.inl rfl))).draws nq
    generalize (w.setCell ⟨l, t, none⟩ (.int .i64 (L0 + 1))).drewN nq = w1 at hq hWq ⊢
    have h1 := hq.c1
    have h2 := hq.c2
    have h3 := hq.c3
    have h4 := hq.c4
    have al_ := hq.al ht
    have as_ := hq.as ht
    have aa_ := hq.aa ht
    have am_ := hq.aM ht
    have z1 := hq.rl.free t
    have z2 := hq.rs.free t
    have z3 := hq.rm.free t
    have z4 := hq.ra.free t
    have hQ := (((hq.putL t 0).putS t 1).putA t v).putM t 0
    rw [hl2] at hQ
    have hW2 := (((hWq.put l t (.int .i64 0) (.inl (.inl rfl))).put s t (.int .i64 1) (.inl (.inr (.inl rfl)))).put a t (.int .i64 v) (.inl (.inr (.inr (.inl rfl))))).put m t (.int .i64 0) (.inl (.inr (.inr (.inr rfl))))
    have HQ := Lib.hid hQ
    have HW := Lib.hid hW2
    generalize nth (L.set t (L0 + 1)) t = L1 at al_
    generalize nth S t = S1 at as_
    generalize nth A t = A1 at aa_
    generalize nth M t = M1 at am_
    clear hq hWq hQ hW2 HP
    go_wp2
    go_big_region
    all_goals go_wp2
    all_goals go_ret
    exact ⟨rfl, HQ.out.drewN _, HW.out.draws _⟩

/-- New numbers: all 0; in memory of their own. -/
def RMade (w : World) (n : Nat) (sp : Int) (e : Ending) (w' : World) : Prop :=
  ∃ x l s a m, e = .returned (.pointer (some ⟨x, 0, none⟩)) ∧ Rf w' x l s a m n sp (List.replicate n 0) (List.replicate n 0) (List.replicate n 0) (List.replicate n 0) ∧ (w.heap.size ≤ x ∧ w.heap.size ≤ l ∧ w.heap.size ≤ s ∧ w.heap.size ≤ a ∧ w.heap.size ≤ m) ∧ w.grownBy w' none

/-- The block behind three others that were made: all alike. -/
theorem rf_row {w : World} {n b : Nat} (R : Obj) (hb : w.heap.size ≤ b ∧ b < w.heap.size + 4) (hR : R = .cells (intC (List.replicate n 0)) 3) : Bk ((((w.alloc R).alloc R).alloc R).alloc R) b 3 (intC (List.replicate n 0)) := by
  subst hR
  have e : b = w.heap.size ∨ b = w.heap.size + 1 ∨ b = w.heap.size + 2 ∨ b = w.heap.size + 3 := by omega
  have s1 : ∀ (W : World) (o : Obj), (W.alloc o).heap.size = W.heap.size + 1 := fun W o => by simp
  rcases e with rfl | rfl | rfl | rfl
  · exact (((Bk.made w _ _).alloc _).alloc _).alloc _
  · have := ((Bk.made (w.alloc (.cells (intC (List.replicate n 0)) 3)) 3 (intC (List.replicate n 0))).alloc (.cells (intC (List.replicate n 0)) 3)).alloc (.cells (intC (List.replicate n 0)) 3)
    rw [s1] at this; exact this
  · have := (Bk.made ((w.alloc (.cells (intC (List.replicate n 0)) 3)).alloc (.cells (intC (List.replicate n 0)) 3)) 3 (intC (List.replicate n 0))).alloc (.cells (intC (List.replicate n 0)) 3)
    rw [s1, s1] at this; exact this
  · have := Bk.made (((w.alloc (.cells (intC (List.replicate n 0)) 3)).alloc (.cells (intC (List.replicate n 0)) 3)).alloc (.cells (intC (List.replicate n 0)) 3)) 3 (intC (List.replicate n 0))
    rw [s1, s1, s1] at this; exact this
theorem rf_made {w : World} {n l s a m : Nat} {sp : Int} (R : Obj) (hR : R = .cells (madeCells #[.int .i64 0] n) 3) (hn : n ≤ 64) (h1 : w.heap.size ≤ l ∧ l < w.heap.size + 4) (h2 : w.heap.size ≤ s ∧ s < w.heap.size + 4) (h3 : w.heap.size ≤ a ∧ a < w.heap.size + 4) (h4 : w.heap.size ≤ m ∧ m < w.heap.size + 4)
    (d : l ≠ s ∧ l ≠ a ∧ l ≠ m ∧ s ≠ a ∧ s ≠ m ∧ a ≠ m) (X : Obj) (hX : X = .cells #[.int .i64 sp, .slice (some ⟨l, 0, none⟩) n n, .slice (some ⟨s, 0, none⟩) n n, .slice (some ⟨a, 0, none⟩) n n, .slice (some ⟨m, 0, none⟩) n n] 34) :
    RMade w n sp (.returned (.pointer (some ⟨w.heap.size + 4, 0, none⟩))) (((((w.alloc R).alloc R).alloc R).alloc R).alloc X).drew := by
  rw [intC_made] at hR
  have s1 : ∀ (W : World) (o : Obj), (W.alloc o).heap.size = W.heap.size + 1 := fun W o => by simp
  have hx : Bk (((((w.alloc R).alloc R).alloc R).alloc R).alloc X) (w.heap.size + 4) 34 #[.int .i64 sp, .slice (some ⟨l, 0, none⟩) n n, .slice (some ⟨s, 0, none⟩) n n, .slice (some ⟨a, 0, none⟩) n n, .slice (some ⟨m, 0, none⟩) n n] := by
    have := Bk.made ((((w.alloc R).alloc R).alloc R).alloc R) 34 #[.int .i64 sp, .slice (some ⟨l, 0, none⟩) n n, .slice (some ⟨s, 0, none⟩) n n, .slice (some ⟨a, 0, none⟩) n n, .slice (some ⟨m, 0, none⟩) n n]
    rw [s1, s1, s1, s1] at this
    rw [hX]; exact this
  refine ⟨w.heap.size + 4, l, s, a, m, rfl, ⟨hx.drewN 1, ((rf_row R h1 hR).alloc X).drewN 1, ((rf_row R h2 hR).alloc X).drewN 1, ((rf_row R h3 hR).alloc X).drewN 1, ((rf_row R h4 hR).alloc X).drewN 1, by simp, hn, d.1, d.2.1, d.2.2.1, d.2.2.2.1, d.2.2.2.2.1, d.2.2.2.2.2⟩, by omega, ?_⟩
  exact grown_draws (grown_then (grown_then (grown_then (grown_then (grown_made _ _ none) (grown_made _ _ none) (.inl rfl)) (grown_made _ _ none) (.inl rfl)) (grown_made _ _ none) (.inl rfl)) (grown_made _ _ none) (.inl rfl)) 1

set_option maxHeartbeats 4000000 in
theorem rfNew (n : Nat) (sp : Int) (hn : n ≤ 64) (w : World) : Calls Try.prog 8 #[.int .i64 n, .int .i64 sp] w (RMade w n sp) := by
  obtain ⟨i0, hi0, hz0, hz1, hz2⟩ := info_parts intinfo
  have hmk := fun W : World => run_make (P := Try.prog) W 32 3 i0 _ Try.underlying32 hi0 hz0 .i64 .i64 n n (by omega) (by omega) (by rw [hz2]; omega) (by omega)
  rw [hz1] at hmk
  clear hi0 hz0 hz1 hz2
  go_enter Try.func8, Try.ntmps8
  go_wp2
  go_big_region
  all_goals go_wp2
  all_goals go_ret
  all_goals (refine rf_made _ rfl hn ?_ ?_ ?_ ?_ ?_ _ rfl <;> omega)
end
end Go.Proofs.Ytjdnellafephfaa
