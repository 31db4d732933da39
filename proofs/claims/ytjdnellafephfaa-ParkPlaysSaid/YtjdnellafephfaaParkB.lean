/- What Look, Moved, Wake, Resume, Parked and Looks of layer 11 (park) return for a thread that there is, and what the waits are then: contracts. -/
import Derived.Test.YtjdnellafephfaaPark
namespace Go.Proofs.Ytjdnellafephfaa
open Go.ChangeShapes Go.WideShapes Go.ChangeAt Go.RowKit

section
variable {w w' : World} {p q g n : Nat} {sp : Int} {ss : List (Int × Int)} {bs : List Bool}

/-- Behind a call: what it answers, what the waits are; nothing else has changed. -/
def WtP (w : World) (p q g n : Nat) (sp : Int) (v : Value) (ss' : List (Int × Int)) (bs' : List Bool) (e : Ending) (w' : World) : Prop :=
  e = .returned v ∧ Wt w' p q g n sp ss' bs' ∧ Within w w' (InWt q g n)

theorem set_set_ad (ss : List (Int × Int)) {t : Nat} (ht : t < ss.length) (v a : Int) : (ss.set t (v, ad ss t)).set t (lf (ss.set t (v, ad ss t)) t, a) = ss.set t (v, a) := by
  rw [lf_set ht, if_pos rfl, List.set_set]

theorem wAnew (h : Wt w p q g n sp ss bs) (t : Nat) (ht : t < n) (hb : nthO false bs t = false) :
    Calls Try.prog 23 #[.pointer (some ⟨p, 0, none⟩), .int .i64 t] w (WtP w p q g n sp (.tuple #[]) (ss.set t (sp, 0)) bs) := by
  have h0 := h.c0
  have h2 := h.c2
  have hf := h.n64
  have hsp := h.one
  have ho := h.ord
  have hlen := h.len
  have hl := h.left ht
  have ha := h.addr ht
  have z1 := h.row.free (t * 2)
  have z2 := h.row.free (t * 2 + 1)
  have hput := (h.putL ht sp (by omega) (Int.le_refl _) (fun _ => hb)).putA ht 0
  rw [set_set_ad ss (by omega)] at hput
  have b3 : (t : Int) < n := by omega
  have hne : q ≠ p := by omega
  have k1 : ∀ (W : World) (u : Value) (i j : Nat), (W.setCell ⟨q, i, none⟩ u).cell? ⟨p, j, none⟩ = W.cell? ⟨p, j, none⟩ := fun W u i j => cell_off hne.symm
  go_enter Try.func23, Try.ntmps23
  go_region
  go_wp2
  go_end0
  exact ⟨rfl, hput.drewN _, ((Within.refl w _).put q _ _ (.inl (.inl rfl))).put q _ _ (.inl (.inl rfl)) |>.draws _⟩

theorem wLooks (h : Wt w p q g n sp ss bs) (t : Nat) (ht : t < n) :
    Calls Try.prog 21 #[.pointer (some ⟨p, 0, none⟩), .int .i64 t] w fun e w' => e = .returned (.int .i64 (if 0 < lf ss t then sp - lf ss t else 0)) ∧ ∃ m, w' = w.drewN m := by
  have h0 := h.c0
  have h2 := h.c2
  have hf := h.n64
  have hsp := h.few
  have hr := h.rng t ht
  have hA := wAwk h t ht
  have hl := h.left ht
  generalize lf ss t = l at hl hr hA ⊢
  by_cases hl0 : 0 < l
  · rw [decide_eq_true hl0] at hA
    rw [if_pos hl0]
    go_enter Try.func21, Try.ntmps21
    go_wp2_with fail
    refine hA.mono ?_
    rintro e w' ⟨rfl, rfl⟩
    go_wp2
    go_quiet (fail)
    go_wp2
    go_ret
    exact ⟨rfl, _, rfl⟩
  · rw [decide_eq_false hl0] at hA
    rw [if_neg hl0]
    go_enter Try.func21, Try.ntmps21
    go_wp2_with fail
    refine hA.mono ?_
    rintro e w' ⟨rfl, rfl⟩
    go_wp2
    go_ret
    exact ⟨rfl, 0, rfl⟩

/-- Where a thread is parked, and that it is. -/
def prkV (ss : List (Int × Int)) (bs : List Bool) (t : Nat) : Value :=
  if lf ss t = 0 ∧ nthO false bs t = false then .tuple #[.int .i64 (ad ss t), .bool true] else .tuple #[.int .i64 0, .bool false]

theorem wParked (h : Wt w p q g n sp ss bs) (t : Nat) (ht : t < n) :
    Calls Try.prog 19 #[.pointer (some ⟨p, 0, none⟩), .int .i64 t] w fun e w' => e = .returned (prkV ss bs t) ∧ w = w' := by
  have h1 := h.c1
  have h2 := h.c2
  have hf := h.n64
  have hK := wPkd h t ht
  have hH := pHas h.pm t ht
  have ha := h.addr ht
  unfold prkV
  generalize lf ss t = l at hK ⊢
  generalize ad ss t = a at ha ⊢
  by_cases hl0 : l = 0
  · subst hl0
    cases hb : nthO false bs t <;> rw [hb] at hH
    · rw [if_pos ⟨rfl, rfl⟩]
      clear hb
      go_enter Try.func19, Try.ntmps19
      go_wp2_with fail
      refine hK.mono ?_
      rintro e w' ⟨rfl, rfl⟩
      go_wp2_with fail
      refine hH.mono ?_
      rintro e w' ⟨rfl, rfl⟩
      go_wp2
      go_ret2
      exact ⟨rfl, rfl⟩
    · rw [if_neg (by simp)]
      clear hb
      go_enter Try.func19, Try.ntmps19
      go_wp2_with fail
      refine hK.mono ?_
      rintro e w' ⟨rfl, rfl⟩
      go_wp2_with fail
      refine hH.mono ?_
      rintro e w' ⟨rfl, rfl⟩
      go_wp2
      go_ret2
      exact ⟨rfl, rfl⟩
  · rw [if_neg (by simp [hl0])]
    have hl1 : (l == 0) = false := by simpa using hl0
    rw [hl1] at hK
    clear hl0 hl1 hH
    go_enter Try.func19, Try.ntmps19
    go_wp2_with fail
    refine hK.mono ?_
    rintro e w' ⟨rfl, rfl⟩
    go_wp2
    go_ret2
    exact ⟨rfl, rfl⟩

/-- What is left behind a look in vain. -/
def lookS (ss : List (Int × Int)) (t : Nat) (a : Int) : List (Int × Int) := if lf ss t = 1 then ss.set t (0, a) else ss.set t (lf ss t - 1, ad ss t)

theorem wLook (h : Wt w p q g n sp ss bs) (t : Nat) (ht : t < n) (hp : 0 < lf ss t) (a : Int) :
    Calls Try.prog 10 #[.pointer (some ⟨p, 0, none⟩), .int .i64 t, .int .i64 a] w (WtP w p q g n sp (.bool (decide (lf ss t = 1))) (lookS ss t a) bs) := by
  have h2 := h.c2
  have hf := h.n64
  have hsp := h.few
  have ho := h.ord
  have hlen := h.len
  have hr := h.rng t ht
  have hA := wAwk h t ht
  rw [decide_eq_true hp] at hA
  have hl := h.left ht
  have z1 := h.row.free (t * 2)
  have z2 := h.row.free (t * 2 + 1)
  have hput := h.putL ht (lf ss t - 1) (by omega) (by omega) (fun _ => h.awk t ht hp)
  have hput2 := hput.putA ht a
  rw [set_set_ad ss (by omega)] at hput2
  have ha := h.addr ht
  have b3 : (t : Int) < n := by omega
  unfold lookS
  generalize lf ss t = l at hl hr hA hput hput2 hp ⊢
  have HP := Lib.hid hput
  have HP2 := Lib.hid hput2
  clear hput hput2
  by_cases e1 : l = 1
  · subst e1
    rw [if_pos rfl]
    go_enter Try.func10, Try.ntmps10
    go_wp2_with fail
    refine hA.mono ?_
    rintro e w' ⟨rfl, rfl⟩
    go_wp2
    go_ret
    exact ⟨rfl, HP2.out, ((Within.refl w _).put q _ _ (.inl (.inl rfl))).put q _ _ (.inl (.inl rfl))⟩
  · rw [if_neg e1, decide_eq_false e1]
    have hpos : 0 < l - 1 := by omega
    go_enter Try.func10, Try.ntmps10
    go_wp2_with fail
    refine hA.mono ?_
    rintro e w' ⟨rfl, rfl⟩
    go_wp2
    go_ret
    exact ⟨rfl, HP.out, ((Within.refl w _).put q _ _ (.inl (.inl rfl)))⟩

theorem wMoved (h : Wt w p q g n sp ss bs) (t : Nat) (ht : t < n) (hp : 0 < lf ss t) :
    Calls Try.prog 12 #[.pointer (some ⟨p, 0, none⟩), .int .i64 t] w (WtP w p q g n sp (.tuple #[]) (ss.set t (sp, 0)) bs) := by
  have hA := wAwk h t ht
  rw [decide_eq_true hp] at hA
  go_enter Try.func12, Try.ntmps12
  go_wp2_with fail
  refine hA.mono ?_
  rintro e w' ⟨rfl, rfl⟩
  go_wp2_with fail
  refine (wAnew h t ht (h.awk t ht hp)).mono ?_
  rintro e w' ⟨rfl, h1, k1⟩
  go_wp2
  go_end0
  exact ⟨rfl, h1, k1⟩

/-- Whether a thread is woken, and who has a permit then. -/
def wakeV (ss : List (Int × Int)) (bs : List Bool) (t : Nat) : Bool := decide (lf ss t = 0) && !nthO false bs t
def wakeB (ss : List (Int × Int)) (bs : List Bool) (t : Nat) : List Bool := if lf ss t = 0 then bs.set t true else bs

theorem wWake (h : Wt w p q g n sp ss bs) (t : Nat) (ht : t < n) :
    Calls Try.prog 15 #[.pointer (some ⟨p, 0, none⟩), .int .i64 t] w (WtP w p q g n sp (.bool (wakeV ss bs t)) ss (wakeB ss bs t)) := by
  have h1 := h.c1
  have hK := wPkd h t ht
  unfold wakeV wakeB
  by_cases hl0 : lf ss t = 0
  · rw [if_pos hl0, decide_eq_true hl0, Bool.true_and]
    rw [hl0] at hK
    go_enter Try.func15, Try.ntmps15
    go_wp2_with fail
    refine hK.mono ?_
    rintro e w' ⟨rfl, rfl⟩
    go_wp2_with fail
    refine (pGive h.pm t ht).mono ?_
    rintro e w' ⟨rfl, hp, k⟩
    go_wp2
    go_ret
    refine ⟨rfl, h.turn hp k (fun i hi hp' => ?_), k.wide (fun i hi _ => .inr hi)⟩
    rw [nthO_set (by rw [h.pm.len]; exact ht)]
    by_cases e : t = i
    · subst e; omega
    · rw [if_neg e]; exact h.awk i hi hp'
  · rw [if_neg hl0, decide_eq_false hl0, Bool.false_and]
    have hl1 : (lf ss t == 0) = false := by simpa using hl0
    rw [hl1] at hK
    go_enter Try.func15, Try.ntmps15
    go_wp2_with fail
    refine hK.mono ?_
    rintro e w' ⟨rfl, rfl⟩
    go_wp2
    go_ret
    exact ⟨rfl, h, Within.refl _ _⟩

/-- Whether a thread may go on; what is left then, and who has a permit. -/
def goV (ss : List (Int × Int)) (bs : List Bool) (t : Nat) : Bool := if lf ss t = 0 then nthO false bs t else true
def goS (sp : Int) (ss : List (Int × Int)) (bs : List Bool) (t : Nat) : List (Int × Int) := if lf ss t = 0 ∧ nthO false bs t = true then ss.set t (sp, 0) else ss
def goB (ss : List (Int × Int)) (bs : List Bool) (t : Nat) : List Bool := if lf ss t = 0 ∧ nthO false bs t = true then bs.set t false else bs

theorem wResume (h : Wt w p q g n sp ss bs) (t : Nat) (ht : t < n) :
    Calls Try.prog 17 #[.pointer (some ⟨p, 0, none⟩), .int .i64 t] w (WtP w p q g n sp (.bool (goV ss bs t)) (goS sp ss bs t) (goB ss bs t)) := by
  have h1 := h.c1
  have hK := wPkd h t ht
  have hlb := h.pm.len
  unfold goV goS goB
  by_cases hl0 : lf ss t = 0
  · rw [if_pos hl0]
    rw [hl0] at hK
    have hT := pTake h.pm t ht
    cases hb : nthO false bs t <;> rw [hb] at hT
    · rw [if_neg (by simp), if_neg (by simp)]
      go_enter Try.func17, Try.ntmps17
      go_wp2_with fail
      refine hK.mono ?_
      rintro e w' ⟨rfl, rfl⟩
      go_wp2_with fail
      refine hT.mono ?_
      rintro e w' ⟨rfl, hp, k⟩
      go_wp2
      go_ret
      rw [set_same hb (by omega)] at hp
      exact ⟨rfl, h.turn hp k h.awk, k.wide (fun i hi _ => .inr hi)⟩
    · rw [if_pos ⟨hl0, rfl⟩, if_pos ⟨hl0, rfl⟩]
      go_enter Try.func17, Try.ntmps17
      go_wp2_with fail
      refine hK.mono ?_
      rintro e w' ⟨rfl, rfl⟩
      go_wp2_with fail
      refine hT.mono ?_
      rintro e w1 ⟨rfl, hp, k⟩
      have hw := h.turn hp k (fun i hi hp' => by
        rw [nthO_set (by omega)]
        by_cases e : t = i
        · rw [if_pos e]
        · rw [if_neg e]; exact h.awk i hi hp')
      go_wp2_with fail
      refine (wAnew hw t ht (by rw [nthO_set (by omega), if_pos rfl])).mono ?_
      rintro e w2 ⟨rfl, hw2, k2⟩
      go_wp2
      go_ret
      exact ⟨rfl, hw2, (k.wide (fun i hi _ => .inr hi)).then_ k2 (fun i hi => .inl hi)⟩
  · rw [if_neg hl0, if_neg (by simp [hl0]), if_neg (by simp [hl0])]
    have hl1 : (lf ss t == 0) = false := by simpa using hl0
    rw [hl1] at hK
    go_enter Try.func17, Try.ntmps17
    go_wp2_with fail
    refine hK.mono ?_
    rintro e w' ⟨rfl, rfl⟩
    go_wp2_with fail
    refine (wIs h t ht).mono ?_
    rintro e w' ⟨rfl, rfl⟩
    go_wp2
    go_ret
    exact ⟨rfl, h, Within.refl _ _⟩
end
end Go.Proofs.Ytjdnellafephfaa
