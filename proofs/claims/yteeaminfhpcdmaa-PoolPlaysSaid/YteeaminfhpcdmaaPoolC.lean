/- New of layer 5 (pool), and awake: contracts. -/
import Derived.Test.YteeaminfhpcdmaaPoolB
namespace Go.Proofs.Yteeaminfhpcdmaa
open Go.ChangeShapes Go.WideShapes Go.ChangeAt Go.RowKit

/-- A thread's first k handles, as they are at first. -/
def firsts (t each k : Nat) : List Int := (List.range k).map (fun i => ((t * each + 1 + i : Nat) : Int))
theorem firsts_0 (t each : Nat) : firsts t each 0 = [] := rfl
theorem firsts_succ (t each k : Nat) : firsts t each k ++ [((t * each + 1 + k : Nat) : Int)] = firsts t each (k + 1) := by simp [firsts, List.range_succ]
theorem firsts_len (t each k : Nat) : (firsts t each k).length = k := by simp [firsts]
theorem held_each {each : Nat} (h : each ≤ 8) : RWord.held (each : Int) = each := by unfold RWord.held; rw [if_neg (by omega), if_neg (by omega), Int.toNat_natCast]

/-- A thread's ring as it is at first, all of it new. -/
def FirstPost (w : World) (t each : Nat) (e : Ending) (w' : World) : Prop :=
  ∃ q og, e = .returned (.pointer (some ⟨q, 0, none⟩)) ∧ RWord.Rg w' q og each (firsts t each each) ∧ Fresh w w' q og

theorem fFirst (t each : Nat) (ht : t < 64) (he : each ≤ 8) (w : World) : Calls Try.prog 22 #[.int .i64 t, .int .i64 each] w (FirstPost w t each) := by
  have hb : t * each ≤ 64 * 8 := Nat.mul_le_mul (by omega) he
  have e1 : ((t * each : Nat) : Int) = (t : Int) * (each : Int) := by simp
  generalize hm : t * each = m at hb e1
  clear hm
  have t3 : wrap64 ((t : Int) * (each : Int)) = (m : Int) := by rw [← e1]; exact IntWalk.wrap64_in _ (by omega)
  go_enter Try.func22, Try.ntmps22
  go_wp2_with fail
  refine (RWord.new_any each w).mono ?_
  rintro e w1 ⟨rfl, hr, hg⟩
  rw [held_each he] at hr
  have hF : Fresh w w1 w.heap.size none := ⟨hg, Nat.le_refl _, fun _ e => by cases e⟩
  generalize w.heap.size = q at hr hF ⊢
  go_wp2
  go_loopw [12] (fun i wr => ∃ k : Nat, ∃ og, k ≤ each ∧ i = .int .i64 k ∧ RWord.Rg wr q og each (firsts t each k) ∧ Fresh w wr q og) (fun i _ => each - (intOf i).toNat)
  case atStart => exact ⟨0, none, Nat.zero_le _, rfl, by rw [firsts_0]; exact hr, hF⟩
  case round =>
    obtain ⟨k, og, hk, rfl, hr, hF⟩ := hrel
    by_cases hlt : k < each
    · go_wp2_with fail
      refine (hNewGood _ 0 (by omega) (by omega) (by omega) (by omega) _).mono ?_
      rintro e w2 ⟨rfl, rfl⟩
      go_wp2_with fail
      refine (RWord.put_ok hr (by rw [firsts_len]; exact hlt) _).mono ?_
      rintro e w2 ⟨og2, rfl, hr2, hmv⟩
      have hr3 : RWord.Rg w2 q og2 each (firsts t each (k + 1)) := by
        rw [← firsts_succ, show ((t * each + 1 + k : Nat) : Int) = (t : Int) * (each : Int) + 1 + (k : Int) by simp]
        exact hr2
      go_wp2
      go_roundw
      case rel => exact ⟨k + 1, og2, by omega, by go_num, hr3, hF.moved hmv⟩
      case measure => simp [intOf]; omega
    · obtain rfl : k = each := by omega
      go_wp2
      go_ret
      exact ⟨q, og, rfl, hr, hF⟩

theorem pNewBad (x y : Int) (h : x < 1 ∨ 64 < x ∨ y < 0 ∨ 8 < y) (w : World) :
    Calls Try.prog 8 #[.int .i64 x, .int .i64 y] w fun e w' => e = .returned (.tuple #[.pointer none, .int .i64 1]) ∧ w = w' := by
  rcases (show x < 1 ∨ (¬ x < 1 ∧ 64 < x) ∨ (¬ x < 1 ∧ ¬ 64 < x ∧ y < 0) ∨ (¬ x < 1 ∧ ¬ 64 < x ∧ ¬ y < 0 ∧ 8 < y) by omega) with h | ⟨h1, h⟩ | ⟨h1, h2, h⟩ | ⟨h1, h2, h3, h⟩
  all_goals
    go_enter Try.func8, Try.ntmps8
    go_wp2
    go_ret2
    exact ⟨rfl, rfl⟩

/-- While a pool is made: k rings are there. -/
structure NewIn (w : World) (p n each k : Nat) (M : PM) (wr : World) : Prop where
  ptr : Bk wr p 55 #[.int .i64 each, .slice (some ⟨M.g, 0, none⟩) n n, .map (some M.b)]
  row : Bk wr M.g 56 (ptRow M.ps n k)
  rings : ∀ i, i < k → RWord.Rg wr (M.ps i) (M.ogs i) each (firsts i each each)
  set : Outs wr M.b (fun _ => false) 0
  psne : ∀ i j, i < k → j < k → i ≠ j → M.ps i ≠ M.ps j
  ogne : ∀ i j g, i < k → j < k → i ≠ j → M.ogs i = some g → M.ogs j ≠ some g
  gr : w.grownBy wr none
  new : ∀ i, M.Has k i → w.heap.size ≤ i
  newp : w.heap.size ≤ p
  newg : w.heap.size ≤ M.g

theorem NewIn.step {w wr w2 : World} {p n each k q : Nat} {M : PM} {og : Option Nat} (h : NewIn w p n each k M wr) (hr : RWord.Rg w2 q og each (firsts k each each)) (hF : Fresh wr w2 q og) :
    NewIn w p n each (k + 1) { M with ps := upd M.ps k q, ogs := upd M.ogs k og } (w2.setCell ⟨M.g, k, none⟩ (.pointer (some ⟨q, 0, none⟩))) := by
  have hw : Within wr w2 (fun _ => False) := .of_grown hF.1 (by simp)
  have hrow := (h.row.within hw (by simp))
  have hptr := (h.ptr.within hw (by simp))
  have hset := (h.set.within hw (by simp))
  have hk : Within w2 (w2.setCell ⟨M.g, k, none⟩ (.pointer (some ⟨q, 0, none⟩))) (fun i => i = M.g) := (Within.refl w2 _).put M.g _ _ (.inl rfl)
  have hkeep : ∀ {a : Nat} {o : Option Nat} {vs : List Int}, RWord.Rg w2 a o each vs → RWord.Rg (w2.setCell ⟨M.g, k, none⟩ (.pointer (some ⟨q, 0, none⟩))) a o each vs := by
    intro a o vs hr
    refine hr.kept hk (fun e => ?_) (fun g' e e' => ?_)
    · obtain ⟨cs, hc⟩ := Rg_hd hr; exact Bk.unlike hc hrow (by decide) e
    · obtain ⟨cs, hc⟩ := Rg_row hr e; exact Bk.unlike hc hrow (by decide) e'
  have hold : ∀ i, i < k → M.ps i < wr.heap.size := fun i hi => (h.rings i hi).p_lt
  have holg : ∀ i, i < k → ∀ g, M.ogs i = some g → g < wr.heap.size := fun i hi g e => (h.rings i hi).g_lt e
  refine ⟨hptr.within hk (Bk.unlike hptr hrow (by decide)), ?_, fun i hi => ?_, hset.within hk (hset.not_bk hrow), ?_, ?_, ?_, ?_, h.newp, h.newg⟩
  · have := hrow.put k (.pointer (some ⟨q, 0, none⟩))
    rw [ptRow_set] at this
    exact this
  · by_cases e : i = k
    · subst e; simp only [upd_same]; exact hkeep hr
    · simp only [upd_other e]
      exact hkeep ((h.rings i (by omega)).kept hw (by simp) (by simp))
  · intro i j hi hj hne
    have hq := hF.2.1
    by_cases ei : i = k
    · subst ei
      simp only [upd_same, upd_other (fun e => hne e.symm)]
      have := hold j (by omega); omega
    · simp only [upd_other ei]
      by_cases ej : j = k
      · subst ej; simp only [upd_same]; have := hold i (by omega); omega
      · simp only [upd_other ej]; exact h.psne i j (by omega) (by omega) hne
  · intro i j g hi hj hne
    by_cases ei : i = k
    · subst ei
      simp only [upd_same, upd_other (fun e => hne e.symm)]
      intro e1 e2
      have := hF.2.2 g e1; have := holg j (by omega) g e2; omega
    · simp only [upd_other ei]
      by_cases ej : j = k
      · subst ej; simp only [upd_same]; intro e1 e2
        have := hF.2.2 g e2; have := holg i (by omega) g e1; omega
      · simp only [upd_other ej]; exact h.ogne i j g (by omega) (by omega) hne
  · exact grown_then (grown_then h.gr hF.1 (.inl rfl)) (only_put _ _ _ _) (.inr fun x e => by injection e with e; have := h.newg; omega)
  · have hs := h.gr.size
    rintro i (e | ⟨j, hj, e | e⟩)
    · exact h.new i (.inl e)
    · by_cases ej : j = k
      · subst ej; simp only [upd_same] at e; have := hF.2.1; omega
      · simp only [upd_other ej] at e; exact h.new i (.inr ⟨j, by omega, .inl e⟩)
    · by_cases ej : j = k
      · subst ej; simp only [upd_same] at e; have := hF.2.2 i e; omega
      · simp only [upd_other ej] at e; exact h.new i (.inr ⟨j, by omega, .inr e⟩)

/-- A new pool, in memory of its own. -/
def PlMade (w : World) (n each : Nat) (e : Ending) (w' : World) : Prop :=
  ∃ p M, e = .returned (.tuple #[.pointer (some ⟨p, 0, none⟩), .int .i64 0]) ∧ Pl w' p n each M (fun t => firsts t each each) (fun _ => false) 0 ∧ w.grownBy w' none ∧ (∀ i, M.Has n i → w.heap.size ≤ i) ∧ w.heap.size ≤ p ∧ w.heap.size ≤ M.g

theorem ptinfo : (Try.prog.info? 56).map (fun i => (i.zero, i.size, i.bytes)) = some (some (.pointer none), 1, 8) := by kernel_rfl

theorem new_start (w : World) (n each : Nat) :
    NewIn w (w.heap.size + 2) n each 0 ⟨w.heap.size, w.heap.size + 1, fun _ => 0, fun _ => none⟩
      (((w.alloc (.cells (madeCells #[.pointer none] n) 56)).alloc (.map #[] 0)).alloc (.cells #[.int .i64 each, .slice (some ⟨w.heap.size, 0, none⟩) n n, .map (some (w.heap.size + 1))] 55)) := by
  have h1 := Bk.made w 56 (madeCells #[.pointer none] n)
  have g1 := grown_made w (.cells (madeCells #[.pointer none] n) 56) none
  have s1 : (w.alloc (.cells (madeCells #[.pointer none] n) 56)).heap.size = w.heap.size + 1 := by simp
  generalize w.alloc (.cells (madeCells #[.pointer none] n) 56) = w1 at h1 g1 s1 ⊢
  have h2 := Outs.made w1
  have g2 := grown_made w1 (.map #[] 0) none
  have s2 : (w1.alloc (.map #[] 0)).heap.size = w1.heap.size + 1 := by simp
  have h1' := h1.alloc (.map #[] 0)
  rw [s1] at h2
  generalize w1.alloc (.map #[] 0) = w2 at h2 g2 s2 h1' ⊢
  have h3 := Bk.made w2 55 #[.int .i64 each, .slice (some ⟨w.heap.size, 0, none⟩) n n, .map (some (w.heap.size + 1))]
  rw [show w2.heap.size = w.heap.size + 2 by omega] at h3
  rw [ptRow_made (fun _ => 0)] at h1'
  refine ⟨h3, h1'.alloc _, fun i hi => by omega, h2.within (S := fun _ => False) (.of_grown (grown_made _ _ none) (by simp)) (by simp), fun i j hi => by omega, fun i j g hi => by omega, ?_, ?_, by omega, Nat.le_refl _⟩
  · exact grown_then (grown_then g1 g2 (.inl rfl)) (grown_made _ _ none) (.inl rfl)
  · rintro i (e | ⟨j, hj, _⟩)
    · simp only at e; omega
    · omega

theorem fresh_drew {w w' : World} {p : Nat} {og : Option Nat} (h : Fresh w.drew w' p og) : Fresh w w' p og := ⟨⟨h.1.os, h.1.tape, h.1.output, h.1.size, h.1.block⟩, h.2⟩

set_option maxHeartbeats 400000 in
theorem plNew (n each : Nat) (h1 : 1 ≤ n) (hn : n ≤ 64) (he : each ≤ 8) (w : World) : Calls Try.prog 8 #[.int .i64 n, .int .i64 each] w (PlMade w n each) := by
  obtain ⟨i0, hi0, hz0, hz1, hz2⟩ := info_parts ptinfo
  have hmk := fun W : World => run_make (P := Try.prog) W 52 56 i0 _ Try.underlying52 hi0 hz0 .i64 .i64 n n (by omega) (by omega) (by rw [hz2]; omega) (by omega)
  rw [hz1] at hmk
  clear hi0 hz0 hz1 hz2
  have hmm := @run_makeMap Try.prog
  have hst := new_start w n each
  rw [show w.heap.size + 2 = w.heap.size + 1 + 1 from rfl] at hst
  have HST := Lib.hid hst
  clear hst
  go_enter Try.func8, Try.ntmps8
  go_wp2
  clear hmk hmm
  go_loopw [29] (fun i wr => ∃ (k : Nat) (ps : Nat → Nat) (ogs : Nat → Option Nat), k ≤ n ∧ i = .int .i64 k ∧ NewIn w (w.heap.size + 1 + 1) n each k ⟨w.heap.size, w.heap.size + 1, ps, ogs⟩ wr) (fun i _ => n - (intOf i).toNat)
  case atStart =>
    exact ⟨0, fun _ => 0, fun _ => none, Nat.zero_le _, rfl, HST.out⟩
  case round =>
    clear HST
    obtain ⟨k, ps, ogs, hk, rfl, hN⟩ := hrel
    have hpg : w.heap.size + 1 + 1 ≠ w.heap.size := by omega
    generalize w.heap.size + 1 + 1 = p at *
    by_cases hlt : k < n
    · have d1 : wr.cell? ⟨p, 1, none⟩ = some (.slice (some ⟨w.heap.size, 0, none⟩) n n) := by rw [hN.ptr.cell]; rfl
      have HN := Lib.hid hN
      clear hN
      have k1 : ∀ (W : World) (u : Value) (i j : Nat), (W.setCell ⟨w.heap.size, i, none⟩ u).cell? ⟨p, j, none⟩ = W.cell? ⟨p, j, none⟩ := fun W u i j => cell_off hpg
      go_wp2
      go_region_held3 (fun w' => w'.cell? ⟨p, 1, none⟩ = some (Value.slice (some ⟨w.heap.size, 0, none⟩) n n)) (first | (exact f1) | go_keep)
        (first | (go_at_call 22; refine (fFirst k each (by omega) he _).mono ?_; rintro e w2 ⟨q, og, rfl, hr2, hF2⟩; have hF := fresh_drew hF2; have hw2 := hF.1; have hrow := HN.out.row.grown hw2 (by simp); have f1 := (HN.out.ptr.grown hw2 (by simp)).cell 1; have f2 := hrow.cell k; rw [ptRow_at _ _ _ _ hlt] at f2; have f3 := hrow.free k; simp only [List.getElem?_toArray, List.getElem?_cons_zero, List.getElem?_cons_succ] at f1; simp only at f2 f3))
      have hs := HN.out.step hr2 hF
      have HS := Lib.hid hs
      clear hs hr2 hF hw2 hrow f1 f2 f3 k1 d1
      go_wp2
      go_roundw
      case rel => exact ⟨k + 1, _, _, by omega, by go_num, HS.out⟩
      case measure => simp [intOf]; omega
    · obtain rfl : k = n := by omega
      go_wp2
      go_ret2
      exact ⟨p, _, rfl, ⟨hN.ptr, hN.row, hN.rings, hN.set, hN.psne, hN.ogne, hn, h1, he⟩, hN.gr, hN.new, hN.newp, hN.newg⟩

/-- Behind awake: true; nothing that was there has changed. -/
def Awoke (w : World) (e : Ending) (w' : World) : Prop := e = .returned (.bool true) ∧ w.grownBy w' none
theorem stays_grown {w a b : World} {n : Nat} {M M' : PM} (h : w.grownBy a none) (hM : ∀ i, M.Has n i → w.heap.size ≤ i) (k : Stays a n M b M') : w.grownBy b none ∧ ∀ i, M'.Has n i → w.heap.size ≤ i :=
  ⟨((Within.of_grown (S := fun _ => False) h (by simp)).then_ k.2.1 (fun i hi => .inr (hM i hi))).grown (by simp), fun i hi => by
    rcases k.2.2 i hi with e | e
    · exact hM i e
    · exact Nat.le_trans h.size e⟩

theorem firsts_122 : firsts 1 2 2 = 3 :: [4] := by decide
theorem lAwake (w : World) : Calls Try.prog 7 #[] w (Awoke w) := by
  go_enter Try.func7, Try.ntmps7
  go_wp2_with fail
  refine (plNew 2 2 (by omega) (by omega) (by omega) w).mono ?_
  rintro e w1 ⟨p, M1, rfl, h1, g1, m1, _, _⟩
  have e1 : (fun t => firsts t 2 2) 1 = 3 :: [4] := firsts_122
  generalize (fun t => firsts t 2 2) = fr at h1 e1
  have E1 := Lib.hid e1
  clear e1
  go_wp2_with fail
  refine (plTake h1 (by omega) 1 (by omega) E1.out (by omega) (by omega) rfl).mono ?_
  rintro e w2 ⟨M2, rfl, h2, s2⟩
  obtain ⟨g2, m2⟩ := stays_grown g1 m1 s2
  clear h1 g1 m1 s2
  go_wp2_with fail
  refine (plTake h2 (by omega) 1 (by omega) (x := 4) (vs := []) (upd_same _ _ _) (by omega) (by omega) (turn_other (by omega))).mono ?_
  rintro e w3 ⟨M3, rfl, h3, s3⟩
  obtain ⟨g3, m3⟩ := stays_grown g2 m2 s3
  clear h2 g2 m2 s3
  go_wp2_with fail
  refine (plTakeNone h3 1 (by omega) (upd_same _ _ _)).mono ?_
  rintro e w4 ⟨rfl, rfl⟩
  go_wp2_with fail
  refine (plFree h3 3 (by omega) (by omega) (t := 1) (i := 0) (by rw [turn_other (by omega), turn_same]) (by omega) (by omega) (by omega) (by rw [upd_same]; simp)).mono ?_
  rintro e w4 ⟨M4, rfl, h4, s4⟩
  obtain ⟨g4, m4⟩ := stays_grown g3 m3 s4
  clear h3 g3 m3 s4
  go_wp2_with fail
  refine (plTake h4 (by omega) 1 (by omega) (x := 4099) (vs := []) (by rw [upd_same, upd_same]; rfl) (by omega) (by omega) (by rw [turn_other (by omega), turn_other (by omega), turn_other (by omega)])).mono ?_
  rintro e w5 ⟨M5, rfl, h5, s5⟩
  obtain ⟨g5, m5⟩ := stays_grown g4 m4 s5
  clear h4 g4 m4 s5 h5 m5
  go_wp2
  go_ret
  exact ⟨rfl, g5⟩
end Go.Proofs.Yteeaminfhpcdmaa
