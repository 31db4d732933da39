/- What Wrote and New of layer 11 (park) return: contracts. -/
import Derived.Test.YtjdnellafephfaaParkB
import Derived.Test.YtjdnellafephfaaInts
namespace Go.Proofs.Ytjdnellafephfaa
open Go.ChangeShapes Go.WideShapes Go.ChangeAt Go.RowKit

/-- Whether a write of an address wakes a thread. -/
def hit (ss : List (Int × Int)) (bs : List Bool) (a b : Int) (t : Nat) : Bool := decide (lf ss t = 0) && !nthO false bs t && (ad ss t == a) && ((t : Int) != b)
/-- Of the first k threads: who is woken, rising; and who has a permit then. -/
def woke (ss : List (Int × Int)) (bs : List Bool) (a b : Int) : Nat → List Int
  | 0 => []
  | k + 1 => if hit ss bs a b k then woke ss bs a b k ++ [(k : Int)] else woke ss bs a b k
def wokeB (ss : List (Int × Int)) (bs : List Bool) (a b : Int) : Nat → List Bool
  | 0 => bs
  | k + 1 => if hit ss bs a b k then (wokeB ss bs a b k).set k true else wokeB ss bs a b k
theorem woke_len (ss : List (Int × Int)) (bs : List Bool) (a b : Int) (k : Nat) : (woke ss bs a b k).length ≤ k := by
  induction k with
  | zero => simp [woke]
  | succ k ih =>
    simp only [woke]; split
    · rw [List.length_append, List.length_singleton]; omega
    · omega
theorem wokeB_len (ss : List (Int × Int)) (bs : List Bool) (a b : Int) (k : Nat) : (wokeB ss bs a b k).length = bs.length := by
  induction k with
  | zero => simp [wokeB]
  | succ k ih => simp only [wokeB]; split <;> simp [ih]
theorem wokeB_at (ss : List (Int × Int)) (bs : List Bool) (a b : Int) (k i : Nat) (hk : k ≤ bs.length) : nthO false (wokeB ss bs a b k) i = if i < k then (nthO false bs i || hit ss bs a b i) else nthO false bs i := by
  induction k with
  | zero => simp [wokeB]
  | succ k ih =>
    have ih := ih (by omega)
    simp only [wokeB]
    by_cases hh : hit ss bs a b k = true
    · rw [if_pos hh, nthO_set (by rw [wokeB_len]; omega), ih]
      by_cases e : k = i
      · subst e; rw [if_pos rfl, if_pos (by omega), hh, Bool.or_true]
      · rw [if_neg e]
        by_cases h1 : i < k
        · rw [if_pos h1, if_pos (by omega)]
        · rw [if_neg h1, if_neg (by omega)]
    · rw [if_neg hh, ih]
      by_cases e : k = i
      · subst e; rw [if_neg (by omega), if_pos (by omega)]
        have : hit ss bs a b k = false := by simpa using hh
        rw [this, Bool.or_false]
      · by_cases h1 : i < k
        · rw [if_pos h1, if_pos (by omega)]
        · rw [if_neg h1, if_neg (by omega)]

section
variable {w w' : World} {p q g n : Nat} {sp : Int} {ss : List (Int × Int)} {bs : List Bool}

/-- Behind Wrote: who was woken, in a list of its own. -/
def WroteP (w : World) (p q g n : Nat) (sp : Int) (ss : List (Int × Int)) (bs' : List Bool) (xs : List Int) (e : Ending) (w' : World) : Prop :=
  ∃ v, e = .returned v ∧ Lst .i64 3 w' v xs ∧ Wt w' p q g n sp ss bs' ∧ (∀ x, v.ownBlock = some x → w.heap.size ≤ x) ∧ Within w w' (InWt q g n)

theorem Wt.in_lt (h : Wt w p q g n sp ss bs) {b : Nat} (hb : InWt q g n b) : b ≤ p := by
  have ho := h.ord
  rcases hb with rfl | hb
  · omega
  · have := hb.2; omega

theorem Wt.in_ge (h : Wt w p q g n sp ss bs) {N : Nat} (hg : N ≤ g) {b : Nat} (hb : InWt q g n b) : N ≤ b := by
  have ho := h.ord
  rcases hb with rfl | hb
  · omega
  · have := hb.1; omega
/-- What a call of waits that are new since world a leaves of what was there then: all. -/
theorem Wt.more {a w1 : World} (h : Wt w p q g n sp ss bs) (hg : a.heap.size ≤ g) (hgr : a.grownBy w none) (k : Within w w1 (InWt q g n)) : a.grownBy w1 none :=
  ((Within.of_grown (S := fun _ => False) hgr (by simp)).then_ k (fun _ hi => .inr (h.in_ge hg hi))).grown (by simp)

set_option maxHeartbeats 1000000 in
theorem wWrote (h : Wt w p q g n sp ss bs) (a b : Int) :
    Calls Try.prog 13 #[.pointer (some ⟨p, 0, none⟩), .int .i64 a, .int .i64 b] w (WroteP w p q g n sp ss (wokeB ss bs a b n) (woke ss bs a b n)) := by
  have h2 := h.c2
  have hf := h.n64
  have hlb := h.pm.len
  have hp0 := h.lt
  go_enter Try.func13, Try.ntmps13
  go_wp2
  go_loopw [7, 16] (fun l i wr => ∃ (k : Nat) (v : Value), k ≤ n ∧ i = .int .i64 k ∧ l = v ∧ Lst .i64 3 wr v (woke ss bs a b k) ∧ Wt wr p q g n sp ss (wokeB ss bs a b k) ∧ (∀ x, v.ownBlock = some x → w.heap.size ≤ x) ∧ Within w wr (InWt q g n)) (fun _ i _ => n - (intOf i).toNat)
  case atStart => exact ⟨0, _, Nat.zero_le _, rfl, rfl, Lst.nil _ _ _, h, by simp [Value.ownBlock], Within.refl _ _⟩
  case round =>
    obtain ⟨k, v, hk, rfl, rfl, hL, hw, hb, hW⟩ := hrel
    generalize u7 = v at *
    by_cases hlt : k < n
    · have hP := wParked hw k hlt
      have hK := wWake hw k hlt
      have hwl := woke_len ss bs a b k
      have hin := fun x => hw.in_lt (b := x)
      have e1 : woke ss bs a b (k + 1) = if hit ss bs a b k then woke ss bs a b k ++ [(k : Int)] else woke ss bs a b k := rfl
      have e2 : wokeB ss bs a b (k + 1) = if hit ss bs a b k then (wokeB ss bs a b k).set k true else wokeB ss bs a b k := rfl
      have eb : nthO false (wokeB ss bs a b k) k = nthO false bs k := by rw [wokeB_at _ _ _ _ _ _ (by omega), if_neg (by omega)]
      unfold prkV at hP
      unfold wakeV wakeB at hK
      rw [eb] at hP hK
      by_cases hc : lf ss k = 0 ∧ nthO false bs k = false
      · obtain ⟨hc1, hc2⟩ := hc
        rw [if_pos ⟨hc1, hc2⟩] at hP
        rw [hc1, hc2, if_pos rfl] at hK
        unfold hit at e1 e2
        rw [hc1, hc2] at e1 e2
        simp only [decide_true, Bool.not_false, Bool.true_and] at e1 e2
        generalize ad ss k = ak at hP e1 e2
        by_cases ha : ak = a
        · subst ha
          by_cases hby : (k : Int) = b
          · subst hby
            simp only [BEq.rfl, bne_self_eq_false, Bool.and_false, Bool.false_eq_true, if_false] at e1 e2
            have HR := Lib.hid (And.intro hL (And.intro hw (And.intro hb hW)))
            have E1 := Lib.hid e1
            have E2 := Lib.hid e2
            clear hL hw hb hW e1 e2 eb hc1 hc2 hK hwl hin hp0 hlb
            go_wp2_with fail
            refine hP.mono ?_
            rintro e w' ⟨rfl, rfl⟩
            go_wp2
            go_roundw
            case rel =>
              obtain ⟨r1, r2, r3, r4⟩ := HR.out
              exact ⟨k + 1, v, by omega, by go_num, rfl, by rw [E1.out]; exact r1, by rw [E2.out]; exact r2, r3, r4⟩
            case measure => simp [intOf]; omega
          · have hbn : ((k : Int) != b) = true := by simpa using hby
            rw [hbn] at e1 e2
            simp only [BEq.rfl, Bool.and_self, if_true] at e1 e2
            have E1 := Lib.hid e1
            have E2 := Lib.hid e2
            have HL := Lib.hid hL
            have HB := Lib.hid hb
            have HW := Lib.hid hW
            have HW' := Lib.hid hw
            clear hL hw hb hW e1 e2 eb hc1 hc2 hby hlb
            go_wp2_with fail
            refine hP.mono ?_
            clear hP
            rintro e w1 ⟨rfl, rfl⟩
            go_wp2_with fail
            refine hK.mono ?_
            clear hK
            rintro e w1 ⟨rfl, hw1, k1⟩
            have hL1 := HL.out.within k1 (fun x hx hx' => by
              have h1 := HB.out x hx
              have h2 := hin x hx'
              omega)
            go_wp2_with (first | (at_builtin; refine wpLstApp rfl _ _ 32 rfl 8 Try.underlying32 intinfo (by omega) hL1 rfl (k : Int) rfl (by omega) ?_; intro v4 w4 hL4 g4 hloc4) | fail)
            have hg5 := (HW.out.then_ k1 (fun i hi => .inl hi))
            have hb4 : ∀ x, v4.ownBlock = some x → w.heap.size ≤ x := fun x e => by
              rcases hloc4 with e4 | e4
              · exact HB.out x (by rw [← e4]; exact e)
              · rw [e4] at e
                injection e with e
                have := hg5.size
                omega
            have hw4 := hw1.kept (S := fun b => v.ownBlock = some b) (.of_grown g4 (fun i e => .inl e)) (fun x _ hx hx' => by have := HB.out x hx'; omega)
            have hg6 := hg5.then_ (S' := fun b => v.ownBlock = some b) (.of_grown g4 (fun i e => .inl e)) (fun i hi => .inr (HB.out i hi))
            rw [← E1.out] at hL4
            rw [← E2.out] at hw4
            have HR := Lib.hid (And.intro hL4 (And.intro hw4 (And.intro hb4 hg6)))
            clear hL4 hw4 hb4 hg6 hg5 hL1 g4 hloc4 hw1 k1 hin
            go_wp2
            go_roundw
            case rel =>
              obtain ⟨r1, r2, r3, r4⟩ := HR.out
              exact ⟨k + 1, v4, by omega, by go_num, rfl, r1, r2, r3, r4⟩
            case measure => simp [intOf]; omega
        · have han : (ak == a) = false := by simpa using ha
          rw [han] at e1 e2
          simp only [Bool.false_and, Bool.false_eq_true, if_false] at e1 e2
          have HR := Lib.hid (And.intro hL (And.intro hw (And.intro hb hW)))
          have E1 := Lib.hid e1
          have E2 := Lib.hid e2
          clear hL hw hb hW e1 e2 eb hc1 hc2 hK hwl hin hp0 hlb ha
          go_wp2_with fail
          refine hP.mono ?_
          rintro e w' ⟨rfl, rfl⟩
          go_wp2
          go_roundw
          case rel =>
            obtain ⟨r1, r2, r3, r4⟩ := HR.out
            exact ⟨k + 1, v, by omega, by go_num, rfl, by rw [E1.out]; exact r1, by rw [E2.out]; exact r2, r3, r4⟩
          case measure => simp [intOf]; omega
      · rw [if_neg hc] at hP
        have hh : hit ss bs a b k = false := by
          unfold hit
          by_cases h1 : lf ss k = 0
          · have h2 : nthO false bs k = true := by simpa using fun e => hc ⟨h1, e⟩
            rw [h2]; simp
          · rw [decide_eq_false h1]; rfl
        rw [hh] at e1 e2
        simp only [Bool.false_eq_true, if_false] at e1 e2
        have HR := Lib.hid (And.intro hL (And.intro hw (And.intro hb hW)))
        have E1 := Lib.hid e1
        have E2 := Lib.hid e2
        clear hL hw hb hW e1 e2 eb hh hK hwl hin hp0 hlb hc
        go_wp2_with fail
        refine hP.mono ?_
        rintro e w' ⟨rfl, rfl⟩
        go_wp2
        go_roundw
        case rel =>
          obtain ⟨r1, r2, r3, r4⟩ := HR.out
          exact ⟨k + 1, v, by omega, by go_num, rfl, by rw [E1.out]; exact r1, by rw [E2.out]; exact r2, r3, r4⟩
        case measure => simp [intOf]; omega
    · obtain rfl : k = n := by omega
      go_wp2
      go_ret
      exact ⟨_, rfl, hL, hw, hb, hW⟩

theorem wNewBadN (n sp : Int) (hn : n < 1 ∨ 64 < n) (w : World) :
    Calls Try.prog 7 #[.int .i64 n, .int .i64 sp] w fun e w' => e = .returned (.tuple #[.pointer none, .int .i64 1]) ∧ w = w' := by
  go_enter Try.func7, Try.ntmps7
  go_wp2_with fail
  refine (pNewBad n hn _).mono ?_
  rintro e w2 ⟨rfl, rfl⟩
  go_wp2
  go_ret2
  exact ⟨rfl, rfl⟩

theorem wNewBadS (n : Nat) (sp : Int) (h1 : 1 ≤ n) (hn : n ≤ 64) (hs : sp < 1 ∨ 1000 < sp) (w : World) :
    Calls Try.prog 7 #[.int .i64 n, .int .i64 sp] w fun e w' => e = .returned (.tuple #[.pointer none, .int .i64 1]) ∧ w.grownBy w' none := by
  rcases hs with hs | hs
  · go_enter Try.func7, Try.ntmps7
    go_wp2_with fail
    refine (pNew n h1 hn _).mono ?_
    rintro e w1 ⟨g, rfl, hp, hg, hgr⟩
    go_wp2
    go_ret2
    exact ⟨rfl, hgr⟩
  · have hs' : ¬ sp < 1 := by omega
    go_enter Try.func7, Try.ntmps7
    go_wp2_with fail
    refine (pNew n h1 hn _).mono ?_
    rintro e w1 ⟨g, rfl, hp, hg, hgr⟩
    go_wp2
    go_ret2
    exact ⟨rfl, hgr⟩

theorem slinfo2 : (Try.prog.info? 57).map (fun i => (i.zero, i.size, i.bytes)) = some (some (.agg #[.int .i64 0, .int .i64 0]), 2, 16) := by kernel_rfl

/-- New waits: all are awake, with the whole budget; in memory of their own. -/
def WMade (w : World) (n : Nat) (sp : Int) (e : Ending) (w' : World) : Prop :=
  ∃ p q g, e = .returned (.tuple #[.pointer (some ⟨p, 0, none⟩), .int .i64 0]) ∧ Wt w' p q g n sp (List.replicate n (sp, 0)) (List.replicate n false) ∧ w.heap.size ≤ g ∧ w.grownBy w' none

theorem nthO_rep {α : Type} (z x : α) (n i : Nat) (h : i < n) : nthO z (List.replicate n x) i = x := by
  simp [nthO, List.getD_eq_getElem?_getD, h]

theorem lay_lf (n k i : Nat) (sp : Int) (hk : k ≤ n) (hi : i < n) : lf (layTo (List.replicate n (sp, (0 : Int))) (List.replicate n (0, 0)) k) i = if i < k then sp else 0 := by
  unfold lf layTo nthO
  simp only [List.getD_eq_getElem?_getD, List.getElem?_append, List.length_take, List.length_replicate, List.getElem?_take, List.getElem?_replicate, List.getElem?_drop]
  by_cases h : i < k
  · rw [if_pos (by omega), if_pos h, if_pos (by omega), if_pos h]; rfl
  · rw [if_neg (by omega), if_pos (by omega), if_neg h]; rfl

set_option maxHeartbeats 400000 in
theorem wNew (n : Nat) (sp : Int) (h1 : 1 ≤ n) (hn : n ≤ 64) (hs1 : 1 ≤ sp) (hs2 : sp ≤ 1000) (w : World) : Calls Try.prog 7 #[.int .i64 n, .int .i64 sp] w (WMade w n sp) := by
  obtain ⟨i0, hi0, hz0, hz1, hz2⟩ := info_parts slinfo2
  have hmk := fun W : World => run_make (P := Try.prog) W 52 57 i0 _ Try.underlying52 hi0 hz0 .i64 .i64 n n (by omega) (by omega) (by rw [hz2]; omega) (by omega)
  rw [hz1] at hmk
  clear hi0 hz0 hz1 hz2
  go_enter Try.func7, Try.ntmps7
  go_wp2_with fail
  refine (pNew n h1 hn _).mono ?_
  rintro e w1 ⟨g, rfl, hp, hg, hgr⟩
  have hpl := hp.lt
  go_wp2
  rw [show madeCells #[.int .i64 0, .int .i64 0] (n * 2) = row2 (List.replicate n (0, 0)) from row2_made n]
  have b1 := Bk.made w1 57 (row2 (List.replicate n (0, 0)))
  have g1 := grown_made w1 (.cells (row2 (List.replicate n (0, 0))) 57) none
  have s1 : (w1.alloc (.cells (row2 (List.replicate n (0, 0))) 57)).heap.size = w1.heap.size + 1 := by simp
  clear hmk
  have b2 := b1.alloc (.cells #[.int .i64 sp, .pointer (some ⟨g + 1 + n, 0, none⟩), .slice (some ⟨w1.heap.size, 0, none⟩) n n] 54)
  have b3 := Bk.made (w1.alloc (.cells (row2 (List.replicate n (0, 0))) 57)) 54 #[.int .i64 sp, .pointer (some ⟨g + 1 + n, 0, none⟩), .slice (some ⟨w1.heap.size, 0, none⟩) n n]
  rw [s1] at b3
  have g2 := grown_then g1 (grown_made _ (.cells #[.int .i64 sp, .pointer (some ⟨g + 1 + n, 0, none⟩), .slice (some ⟨w1.heap.size, 0, none⟩) n n] 54) none) (.inl rfl)
  generalize (w1.alloc (.cells (row2 (List.replicate n (0, 0))) 57)).alloc (.cells #[.int .i64 sp, .pointer (some ⟨g + 1 + n, 0, none⟩), .slice (some ⟨w1.heap.size, 0, none⟩) n n] 54) = w2 at b2 b3 g2 ⊢
  have hgr2 := grown_then hgr g2 (.inl rfl)
  have hw2 : Wt w2 (w1.heap.size + 1) w1.heap.size g n sp (layTo (List.replicate n (sp, (0 : Int))) (List.replicate n (0, 0)) 0) (List.replicate n false) := by
    refine ⟨b3, by rw [layTo_0]; exact b2, by rw [layTo_0]; simp, hp.grown g2, hs1, hs2, fun i hi => ?_, fun i hi hp => ?_, by omega⟩
    · rw [lay_lf _ _ _ _ (by omega) hi, if_neg (by omega)]; omega
    · rw [lay_lf _ _ _ _ (by omega) hi, if_neg (by omega)] at hp; omega
  clear b1 b2 b3 g1 s1 hp hgr g2
  generalize w1.heap.size = q at hw2 hpl ⊢
  go_loopw [32] (fun i wr => ∃ k : Nat, k ≤ n ∧ i = .int .i64 k ∧ Wt wr (q + 1) q g n sp (layTo (List.replicate n (sp, (0 : Int))) (List.replicate n (0, 0)) k) (List.replicate n false) ∧ w.grownBy wr none) (fun i _ => n - (intOf i).toNat)
  case atStart => exact ⟨0, Nat.zero_le _, rfl, hw2, hgr2⟩
  case round =>
    clear hw2 hgr2
    obtain ⟨k, hk, rfl, hw, hgr⟩ := hrel
    by_cases hlt : k < n
    · go_wp2_with fail
      refine (wAnew hw k hlt (nthO_none _ _)).mono ?_
      rintro e w3 ⟨rfl, hw3, k3⟩
      have hls := layTo_set (z := ((0 : Int), (0 : Int))) (List.replicate n (sp, (0 : Int))) (List.replicate n (0, 0)) k (by simpa using hlt) (by simpa using hlt)
      rw [nthO_rep _ _ _ _ hlt] at hls
      rw [hls] at hw3
      have hgr3 := hw.more hg hgr k3
      have HR := Lib.hid (And.intro hw3 hgr3)
      clear hw3 hgr3 k3 hw hgr hls
      go_wp2
      go_roundw
      case rel => exact ⟨k + 1, by omega, by go_num, HR.out⟩
      case measure => simp [intOf]; omega
    · obtain rfl : k = n := by omega
      have hla := layTo_all (List.replicate k (sp, (0 : Int))) (List.replicate k (0, 0)) (by simp)
      rw [List.length_replicate] at hla
      rw [hla] at hw
      have HR := Lib.hid hw
      clear hw hla
      go_wp2
      go_ret2
      exact ⟨q + 1, q, g, rfl, HR.out, hg, hgr⟩

/-- Behind awake: true; nothing that was there has changed. -/
theorem lAwake11 (w : World) : Calls Try.prog 6 #[] w fun e w' => e = .returned (.bool true) ∧ w.grownBy w' none := by
  go_enter Try.func6, Try.ntmps6
  go_wp2_with fail
  refine (wNew 1 2 (by omega) (by omega) (by omega) (by omega) w).mono ?_
  rintro e w1 ⟨p, q, g, rfl, h1, hg, hgr⟩
  go_wp2_with fail
  refine (wLook h1 0 (by omega) (by decide) 7).mono ?_
  rintro e w2 ⟨rfl, h2, k2⟩
  have g2 := h1.more hg hgr k2
  simp only [show lookS (List.replicate 1 ((2 : Int), (0 : Int))) 0 7 = [(1, 0)] from by decide] at h2
  go_wp2_with fail
  refine (wLook h2 0 (by omega) (by decide) 7).mono ?_
  rintro e w3 ⟨rfl, h3, k3⟩
  have g3 := h2.more hg g2 k3
  simp only [show lookS [((1 : Int), (0 : Int))] 0 7 = [(0, 7)] from by decide] at h3
  go_wp2_with fail
  refine (wResume h3 0 (by omega)).mono ?_
  rintro e w4 ⟨rfl, h4, k4⟩
  have g4 := h3.more hg g3 k4
  simp only [show goS 2 [((0 : Int), (7 : Int))] (List.replicate 1 false) 0 = [(0, 7)] from by decide, show goB [((0 : Int), (7 : Int))] (List.replicate 1 false) 0 = [false] from by decide] at h4
  go_wp2_with fail
  refine (wWrote h4 7 (-1)).mono ?_
  rintro e w5 ⟨v, rfl, hL, h5, hb, k5⟩
  have g5 := h4.more hg g4 k5
  simp only [show wokeB [((0 : Int), (7 : Int))] [false] 7 (-1) 1 = [true] from by decide] at h5
  rw [show woke [((0 : Int), (7 : Int))] [false] 7 (-1) 1 = [0] from by decide] at hL
  obtain ⟨av, cap, rfl, hc1, hc2, hat⟩ := hL.is
  obtain ⟨gv, rfl, _, hfr, hce⟩ := hat (by simp)
  have hce0 := hce 0 (by simp)
  go_wp2_with fail
  refine (wResume h5 0 (by omega)).mono ?_
  rintro e w6 ⟨rfl, h6, k6⟩
  have g6 := h5.more hg g5 k6
  go_wp2
  go_ret
  exact ⟨rfl, g6⟩
end
end Go.Proofs.Ytjdnellafephfaa
