/- The document's Wrote of layer 11, and how the document's numbers and the program's waits say the same: contracts. -/
import Derived.Test.YtjdnellafephfaaParkC
import Derived.Test.YtjdnellafephfaaParkR
namespace Go.Proofs.Ytjdnellafephfaa
open Go.ChangeShapes Go.WideShapes Go.ChangeAt Go.RowKit

/-- The document's numbers say what is left to each thread, where it is parked, who has a permit. -/
structure Tie (n : Nat) (sp : Int) (ss : List (Int × Int)) (bs : List Bool) (L S A M : List Int) : Prop where
  l : ∀ t, t < n → nth L t = if 0 < lf ss t then sp - lf ss t else 0
  s : ∀ t, t < n → nth S t = if lf ss t = 0 then 1 else 0
  a : ∀ t, t < n → lf ss t = 0 → nth A t = ad ss t
  m : ∀ t, t < n → nth M t = if nthO false bs t then 1 else 0

section
variable {w w' : World} {x l s a m n p q g : Nat} {sp : Int} {L S A M : List Int} {ss : List (Int × Int)} {bs : List Bool}

theorem Rf.in_ge (h : Rf w x l s a m n sp L S A M) {N : Nat} (hg : N ≤ l ∧ N ≤ s ∧ N ≤ a ∧ N ≤ m) {b : Nat} (hb : InRf l s a m b) : N ≤ b := by
  rcases hb with rfl | rfl | rfl | rfl <;> omega
theorem Rf.in_lt (h : Rf w x l s a m n sp L S A M) {b : Nat} (hb : InRf l s a m b) : b < w.heap.size := by
  rcases hb with rfl | rfl | rfl | rfl
  · exact h.rl.lt
  · exact h.rs.lt
  · exact h.ra.lt
  · exact h.rm.lt

/-- Behind the document's Wrote: who was woken, in a list of its own. -/
def RfWroteP (w : World) (x l s a m n : Nat) (sp : Int) (L S A : List Int) (ss : List (Int × Int)) (bs' : List Bool) (xs : List Int) (e : Ending) (w' : World) : Prop :=
  ∃ v M', e = .returned v ∧ Lst .i64 3 w' v xs ∧ Rf w' x l s a m n sp L S A M' ∧ Tie n sp ss bs' L S A M' ∧ (∀ y, v.ownBlock = some y → w.heap.size ≤ y) ∧ Within w w' (InRf l s a m)

set_option maxHeartbeats 1000000 in
theorem rfWrote (h : Rf w x l s a m n sp L S A M) (hT : Tie n sp ss bs L S A M) (hlb : bs.length = n) (c b : Int) :
    Calls Try.prog 14 #[.pointer (some ⟨x, 0, none⟩), .int .i64 c, .int .i64 b] w (RfWroteP w x l s a m n sp L S A ss (wokeB ss bs c b n) (woke ss bs c b n)) := by
  have h2 := h.c2
  have hf := h.few
  have hxs : x < w.heap.size := h.hd.lt
  have hin0 := fun y => h.in_lt (b := y)
  go_enter Try.func14, Try.ntmps14
  go_wp2
  clear h2
  go_loopw [7, 14] (fun q i wr => ∃ (k : Nat) (v : Value) (M' : List Int), k ≤ n ∧ i = .int .i64 k ∧ q = v ∧ Lst .i64 3 wr v (woke ss bs c b k) ∧ Rf wr x l s a m n sp L S A M' ∧ Tie n sp ss (wokeB ss bs c b k) L S A M' ∧ (∀ y, v.ownBlock = some y → w.heap.size ≤ y) ∧ Within w wr (InRf l s a m)) (fun _ i _ => n - (intOf i).toNat)
  case atStart => exact ⟨0, _, M, Nat.zero_le _, rfl, rfl, Lst.nil _ _ _, h, hT, by simp [Value.ownBlock], Within.refl _ _⟩
  case round =>
    clear h hT
    obtain ⟨k, v, M', hk, rfl, rfl, hL, hw, hT, hb, hW⟩ := hrel
    generalize u7 = v at *
    by_cases hlt : k < n
    · have hwl := woke_len ss bs c b k
      have e1 : woke ss bs c b (k + 1) = if hit ss bs c b k then woke ss bs c b k ++ [(k : Int)] else woke ss bs c b k := rfl
      have e2 : wokeB ss bs c b (k + 1) = if hit ss bs c b k then (wokeB ss bs c b k).set k true else wokeB ss bs c b k := rfl
      have eb : nthO false (wokeB ss bs c b k) k = nthO false bs k := by rw [wokeB_at _ _ _ _ _ _ (by omega), if_neg (by omega)]
      have c2 := hw.c2
      have c3 := hw.c3
      have cs := hw.as hlt
      have ca := hw.aa hlt
      have ts := hT.s k hlt
      have ta := hT.a k hlt
      have tm := hT.m k hlt
      rw [eb] at tm
      have hK := rfWake hw k hlt
      unfold hit at e1 e2
      by_cases hl0 : lf ss k = 0
      · rw [if_pos hl0] at ts
        have ta := ta hl0
        rw [hl0] at e1 e2
        rw [ts] at cs
        rw [ta] at ca
        simp only [decide_true, Bool.true_and] at e1 e2
        clear ta
        generalize ad ss k = ak at ca e1 e2
        by_cases ha : ak = c
        · subst ha
          by_cases hby : (k : Int) = b
          · subst hby
            simp only [bne_self_eq_false, Bool.and_false, Bool.false_eq_true, if_false] at e1 e2
            have HR := Lib.hid (And.intro hL (And.intro hw (And.intro hT (And.intro hb hW))))
            have E1 := Lib.hid e1
            have E2 := Lib.hid e2
            clear hL hw hb hW e1 e2 eb hK hwl hxs hin0 hl0 ts tm hT
            go_wp2
            go_roundw
            case rel =>
              obtain ⟨r1, r2, r3, r4, r5⟩ := HR.out
              exact ⟨k + 1, v, M', by omega, by go_num, rfl, by rw [E1.out]; exact r1, r2, by rw [E2.out]; exact r3, r4, r5⟩
            case measure => simp [intOf]; omega
          · have hbn : ((k : Int) != b) = true := by simpa using hby
            rw [hbn] at e1 e2
            simp only [BEq.rfl, Bool.and_true] at e1 e2
            rw [ts] at hK
            cases hbk : nthO false bs k
            · rw [hbk] at e1 e2 tm
              simp only [Bool.not_false, if_true, Bool.false_eq_true, if_false] at e1 e2 tm
              rw [tm] at hK
              simp only [show ¬ ((1 : Int) = 0 ∨ (0 : Int) = 1) by omega, if_false] at hK
              have E1 := Lib.hid e1
              have HL := Lib.hid hL
              have HB := Lib.hid hb
              have HW := Lib.hid hW
              have hlM := hw.len
              have hT2 : Tie n sp ss (wokeB ss bs ak b (k + 1)) L S A (M'.set k 1) := by
                refine ⟨hT.l, hT.s, hT.a, fun t ht => ?_⟩
                rw [e2, nthO_set (by rw [wokeB_len]; omega), nth_set (by omega)]
                by_cases e : k = t
                · rw [if_pos e, if_pos e]; rfl
                · rw [if_neg e, if_neg e]; exact hT.m t ht
              have HT2 := Lib.hid hT2
              clear hL hb hW e1 e2 eb hby ts tm hT hT2 hl0 hbk hlM hw
              go_wp2_with fail
              refine hK.mono ?_
              clear hK
              rintro e w1 ⟨rfl, hw1, k1⟩
              have hg1 := HW.out.then_ k1 (fun i hi => .inl hi)
              have hL1 := HL.out.within k1 (fun y hy hy' => by
                have h1 := HB.out y hy
                have h2 := hin0 y hy'
                omega)
              go_wp2_with (first | (at_builtin; refine wpLstApp rfl _ _ 32 rfl 8 Try.underlying32 intinfo (by omega) hL1 rfl (k : Int) rfl (by omega) ?_; intro v4 w4 hL4 g4 hloc4) | fail)
              have hb4 : ∀ y, v4.ownBlock = some y → w.heap.size ≤ y := fun y e => by
                rcases hloc4 with e4 | e4
                · exact HB.out y (by rw [← e4]; exact e)
                · rw [e4] at e
                  injection e with e
                  have := hg1.size
                  omega
              have hw4 := hw1.kept (T := fun b => v.ownBlock = some b) (.of_grown g4 (fun i e => .inl e)) (fun e => by have := HB.out _ e; omega) (fun y hy hy' => by
                have h1 := HB.out y hy'
                have h2 := hin0 y hy
                omega)
              have hg6 := hg1.then_ (S' := fun b => v.ownBlock = some b) (.of_grown g4 (fun i e => .inl e)) (fun i hi => .inr (HB.out i hi))
              rw [← E1.out] at hL4
              have HR := Lib.hid (And.intro hL4 (And.intro hw4 (And.intro hb4 hg6)))
              clear hL4 hw4 hb4 hg6 hg1 hL1 g4 hloc4 hw1 k1 hin0
              go_wp2
              go_roundw
              case rel =>
                obtain ⟨r1, r2, r3, r4⟩ := HR.out
                exact ⟨k + 1, v4, _, by omega, by go_num, rfl, r1, r2, HT2.out, r3, r4⟩
              case measure => simp [intOf]; omega
            · rw [hbk] at e1 e2 tm
              simp only [Bool.not_true, Bool.false_eq_true, if_true, if_false] at e1 e2 tm
              rw [tm] at hK
              simp only [or_true, if_true] at hK
              have HR := Lib.hid (And.intro hL (And.intro hT (And.intro hb hW)))
              have E1 := Lib.hid e1
              have E2 := Lib.hid e2
              clear hL hb hW e1 e2 eb hwl hl0 ts tm hT hbk hby hw
              go_wp2_with fail
              refine hK.mono ?_
              clear hK
              rintro e w1 ⟨rfl, hw1, k1⟩
              obtain ⟨r1, r3, r4, r5⟩ := HR.out
              have hL1 := r1.within k1 (fun y hy hy' => by
                have h1 := r4 y hy
                have h2 := hin0 y hy'
                omega)
              have HQ := Lib.hid (And.intro hL1 (And.intro hw1 (r5.then_ k1 (fun i hi => .inl hi))))
              clear hL1 hw1 k1 r1 r3 r4 r5 hin0 hxs
              go_wp2
              go_roundw
              case rel =>
                obtain ⟨q1, q2, q3⟩ := HQ.out
                obtain ⟨r1, r3, r4, r5⟩ := HR.out
                exact ⟨k + 1, v, M', by omega, by go_num, rfl, by rw [E1.out]; exact q1, q2, by rw [E2.out]; exact r3, r4, q3⟩
              case measure => simp [intOf]; omega
        · have han : (ak == c) = false := by simpa using ha
          rw [han] at e1 e2
          simp only [Bool.and_false, Bool.false_and, Bool.false_eq_true, if_false] at e1 e2
          have HR := Lib.hid (And.intro hL (And.intro hw (And.intro hT (And.intro hb hW))))
          have E1 := Lib.hid e1
          have E2 := Lib.hid e2
          clear hL hw hb hW e1 e2 eb hK hwl hxs hin0 hl0 ts tm hT ha
          go_wp2
          go_roundw
          case rel =>
            obtain ⟨r1, r2, r3, r4, r5⟩ := HR.out
            exact ⟨k + 1, v, M', by omega, by go_num, rfl, by rw [E1.out]; exact r1, r2, by rw [E2.out]; exact r3, r4, r5⟩
          case measure => simp [intOf]; omega
      · rw [if_neg hl0] at ts
        rw [ts] at cs
        rw [decide_eq_false hl0] at e1 e2
        simp only [Bool.false_and, Bool.false_eq_true, if_false] at e1 e2
        have HR := Lib.hid (And.intro hL (And.intro hw (And.intro hT (And.intro hb hW))))
        have E1 := Lib.hid e1
        have E2 := Lib.hid e2
        clear hL hw hb hW e1 e2 eb hK hwl hxs hin0 hl0 ts ta tm hT
        go_wp2
        go_roundw
        case rel =>
          obtain ⟨r1, r2, r3, r4, r5⟩ := HR.out
          exact ⟨k + 1, v, M', by omega, by go_num, rfl, by rw [E1.out]; exact r1, r2, by rw [E2.out]; exact r3, r4, r5⟩
        case measure => simp [intOf]; omega
    · obtain rfl : k = n := by omega
      go_wp2
      go_ret
      exact ⟨_, M', rfl, hL, hw, hT, hb, hW⟩

/-- A truth as a number. -/
def onei (b : Bool) : Int := if b then 1 else 0
theorem rOne11 (b : Bool) (w : World) : Calls Try.prog 9 #[.bool b] w fun e w' => e = .returned (.int .i64 (onei b)) ∧ w = w' := by
  cases b
  · go_enter Try.func9, Try.ntmps9
    go_wp2
    go_ret
    exact ⟨rfl, rfl⟩
  · go_enter Try.func9, Try.ntmps9
    go_wp2
    go_ret
    exact ⟨rfl, rfl⟩

/-- Who is parked is parked at an address from 0 on. -/
def Adr (n : Nat) (ss : List (Int × Int)) : Prop := ∀ i, i < n → lf ss i = 0 → 0 ≤ ad ss i
theorem Adr.set {n : Nat} {ss : List (Int × Int)} (h : Adr n ss) (hl : ss.length = n) {t : Nat} (ht : t < n) {v : Int × Int} (hv : v.1 = 0 → 0 ≤ v.2) : Adr n (ss.set t v) := by
  intro i hi h0
  rw [lf_set (by omega)] at h0
  rw [ad_set (by omega)]
  by_cases e : t = i
  · rw [if_pos e] at h0 ⊢; exact hv h0
  · rw [if_neg e] at h0 ⊢; exact h i hi h0
/-- A look in vain, on both sides. -/
theorem both_look (h : Wt w p q g n sp ss bs) (hr : Rf w x l s a m n sp L S A M) (hT : Tie n sp ss bs L S A M) (t : Nat) (ht : t < n) (hp : 0 < lf ss t) (v : Int) (hv : 0 ≤ v) (hA : Adr n ss) :
    ∃ (b : Bool) (ss1 : List (Int × Int)) (L1 S1 A1 M1 : List Int),
      (∀ W, Wt W p q g n sp ss bs → Calls Try.prog 10 #[.pointer (some ⟨p, 0, none⟩), .int .i64 t, .int .i64 v] W (WtP W p q g n sp (.bool b) ss1 bs)) ∧
      (∀ W, Rf W x l s a m n sp L S A M → Calls Try.prog 11 #[.pointer (some ⟨x, 0, none⟩), .int .i64 t, .int .i64 v] W (RfP W x l s a m n sp (.int .i64 (onei b)) L1 S1 A1 M1)) ∧ Adr n ss1 ∧ Tie n sp ss1 bs L1 S1 A1 M1 := by
  have hl := hT.l t ht
  rw [if_pos hp] at hl
  have hrg := h.rng t ht
  have hsp := h.few
  have hlen := hr.len
  have hsl := h.len
  have hbt := h.awk t ht hp
  by_cases e : lf ss t = 1
  · refine ⟨true, ss.set t (0, v), L.set t 0, S.set t 1, A.set t v, M.set t 0, fun W hW => ?_, fun W hW => ?_, hA.set hsl ht (fun _ => hv), fun i hi => ?_, fun i hi => ?_, fun i hi h0 => ?_, fun i hi => ?_⟩
    · have := wLook hW t ht hp v
      unfold lookS at this
      rw [if_pos e, decide_eq_true e] at this
      exact this
    · have := rfLook hW t ht (by omega) (by omega) v
      have e1 : ¬ nth L t + 1 < sp := by omega
      rw [if_neg e1, if_neg e1, if_neg e1, if_neg e1, if_neg e1] at this
      exact this
    · rw [nth_set (by omega), lf_set (by omega)]
      by_cases ei : t = i
      · subst ei; rw [if_pos rfl, if_pos rfl]; rfl
      · rw [if_neg ei, if_neg ei]; exact hT.l i hi
    · rw [nth_set (by omega), lf_set (by omega)]
      by_cases ei : t = i
      · subst ei; rw [if_pos rfl, if_pos rfl]; rfl
      · rw [if_neg ei, if_neg ei]; exact hT.s i hi
    · rw [lf_set (by omega)] at h0
      rw [nth_set (by omega), ad_set (by omega)]
      by_cases ei : t = i
      · subst ei; rw [if_pos rfl, if_pos rfl]
      · rw [if_neg ei] at h0; rw [if_neg ei, if_neg ei]; exact hT.a i hi h0
    · rw [nth_set (by omega)]
      by_cases ei : t = i
      · subst ei; rw [if_pos rfl, hbt]; rfl
      · rw [if_neg ei]; exact hT.m i hi
  · refine ⟨false, ss.set t (lf ss t - 1, ad ss t), L.set t (nth L t + 1), S, A, M, fun W hW => ?_, fun W hW => ?_, hA.set hsl ht (fun e2 => absurd (show lf ss t - 1 = 0 from e2) (by omega)), fun i hi => ?_, fun i hi => ?_, fun i hi h0 => ?_, hT.m⟩
    · have := wLook hW t ht hp v
      unfold lookS at this
      rw [if_neg e, decide_eq_false e] at this
      exact this
    · have := rfLook hW t ht (by omega) (by omega) v
      have e1 : nth L t + 1 < sp := by omega
      rw [if_pos e1, if_pos e1, if_pos e1, if_pos e1, if_pos e1] at this
      exact this
    · rw [nth_set (by omega), lf_set (by omega)]
      by_cases ei : t = i
      · subst ei; rw [if_pos rfl, if_pos rfl, if_pos (by show 0 < lf ss t - 1; omega)]; show _ = sp - (lf ss t - 1); omega
      · rw [if_neg ei, if_neg ei]; exact hT.l i hi
    · rw [lf_set (by omega)]
      by_cases ei : t = i
      · subst ei; rw [if_pos rfl, if_neg (by show ¬ lf ss t - 1 = 0; omega)]
        have := hT.s t hi; rw [if_neg (by omega)] at this; exact this
      · rw [if_neg ei]; exact hT.s i hi
    · rw [lf_set (by omega)] at h0
      rw [ad_set (by omega)]
      by_cases ei : t = i
      · subst ei; rw [if_pos rfl] at h0; exact absurd h0 (by show ¬ lf ss t - 1 = 0; omega)
      · rw [if_neg ei] at h0; rw [if_neg ei]; exact hT.a i hi h0

/-- Something else was done: what becomes of the document's looks. -/
theorem tie_moved (hT : Tie n sp ss bs L S A M) (hsl : ss.length = n) (hll : L.length = n) (hsp : 1 ≤ sp) (t : Nat) (ht : t < n) (hp : 0 < lf ss t) : Tie n sp (ss.set t (sp, 0)) bs (L.set t 0) S A M := by
  refine ⟨fun i hi => ?_, fun i hi => ?_, fun i hi h0 => ?_, hT.m⟩
  · rw [nth_set (by omega), lf_set (by omega)]
    by_cases ei : t = i
    · subst ei; rw [if_pos rfl, if_pos rfl, if_pos (by show 0 < sp; omega)]; show (0 : Int) = sp - sp; omega
    · rw [if_neg ei, if_neg ei]; exact hT.l i hi
  · rw [lf_set (by omega)]
    by_cases ei : t = i
    · subst ei; rw [if_pos rfl, if_neg (by show ¬ sp = 0; omega)]
      have := hT.s t hi; rw [if_neg (by omega)] at this; exact this
    · rw [if_neg ei]; exact hT.s i hi
  · rw [lf_set (by omega)] at h0
    rw [ad_set (by omega)]
    by_cases ei : t = i
    · subst ei; rw [if_pos rfl] at h0; exact absurd h0 (by show ¬ sp = 0; omega)
    · rw [if_neg ei] at h0; rw [if_neg ei]; exact hT.a i hi h0

/-- A wake, on both sides. -/
theorem both_wake (h : Wt w p q g n sp ss bs) (hr : Rf w x l s a m n sp L S A M) (hT : Tie n sp ss bs L S A M) (t : Nat) (ht : t < n) :
    ∃ (b : Bool) (bs1 : List Bool) (M1 : List Int),
      (∀ W, Wt W p q g n sp ss bs → Calls Try.prog 15 #[.pointer (some ⟨p, 0, none⟩), .int .i64 t] W (WtP W p q g n sp (.bool b) ss bs1)) ∧
      (∀ W, Rf W x l s a m n sp L S A M → Calls Try.prog 16 #[.pointer (some ⟨x, 0, none⟩), .int .i64 t] W (RfP W x l s a m n sp (.int .i64 (onei b)) L S A M1)) ∧ Tie n sp ss bs1 L S A M1 := by
  have hs := hT.s t ht
  have hm := hT.m t ht
  have hlen := hr.len
  have hsl := h.len
  have hbl := h.pm.len
  by_cases hc : lf ss t = 0 ∧ nthO false bs t = false
  · obtain ⟨h0, hb⟩ := hc
    rw [if_pos h0] at hs
    rw [hb] at hm
    refine ⟨true, bs.set t true, M.set t 1, fun W hW => ?_, fun W hW => ?_, hT.l, hT.s, hT.a, fun i hi => ?_⟩
    · have := wWake hW t ht
      unfold wakeV wakeB at this
      rw [if_pos h0, decide_eq_true h0, hb] at this
      exact this
    · have := rfWake hW t ht
      have e1 : ¬ (nth S t = 0 ∨ nth M t = 1) := by rw [hs, hm]; simp
      rw [if_neg e1, if_neg e1] at this
      exact this
    · rw [nth_set (by omega), nthO_set (by omega)]
      by_cases ei : t = i
      · subst ei; rw [if_pos rfl, if_pos rfl]; rfl
      · rw [if_neg ei, if_neg ei]; exact hT.m i hi
  · refine ⟨false, bs, M, fun W hW => ?_, fun W hW => ?_, hT⟩
    · have := wWake hW t ht
      have e1 : wakeV ss bs t = false := by
        unfold wakeV
        by_cases e : lf ss t = 0
        · have : nthO false bs t = true := by simpa using fun e2 => hc ⟨e, e2⟩
          rw [this]; simp
        · rw [decide_eq_false e]; rfl
      have e2 : wakeB ss bs t = bs := by
        unfold wakeB
        by_cases e : lf ss t = 0
        · have : nthO false bs t = true := by simpa using fun e2 => hc ⟨e, e2⟩
          rw [if_pos e]; exact set_same this (by omega)
        · rw [if_neg e]
      rw [e1, e2] at this
      exact this
    · have := rfWake hW t ht
      have e1 : nth S t = 0 ∨ nth M t = 1 := by
        by_cases e : lf ss t = 0
        · have : nthO false bs t = true := by simpa using fun e2 => hc ⟨e, e2⟩
          right; rw [hm, this]; rfl
        · left; rw [hs, if_neg e]
      rw [if_pos e1, if_pos e1] at this
      exact this

/-- A thread asks, on both sides. -/
theorem both_resume (h : Wt w p q g n sp ss bs) (hr : Rf w x l s a m n sp L S A M) (hT : Tie n sp ss bs L S A M) (t : Nat) (ht : t < n) (hA : Adr n ss) :
    ∃ (b : Bool) (ss1 : List (Int × Int)) (bs1 : List Bool) (L1 S1 M1 : List Int),
      (∀ W, Wt W p q g n sp ss bs → Calls Try.prog 17 #[.pointer (some ⟨p, 0, none⟩), .int .i64 t] W (WtP W p q g n sp (.bool b) ss1 bs1)) ∧
      (∀ W, Rf W x l s a m n sp L S A M → Calls Try.prog 18 #[.pointer (some ⟨x, 0, none⟩), .int .i64 t] W (RfP W x l s a m n sp (.int .i64 (onei b)) L1 S1 A M1)) ∧ Adr n ss1 ∧ Tie n sp ss1 bs1 L1 S1 A M1 := by
  have hs := hT.s t ht
  have hm := hT.m t ht
  have hlen := hr.len
  have hsl := h.len
  have hbl := h.pm.len
  have hsp := h.one
  by_cases hc : lf ss t = 0 ∧ nthO false bs t = true
  · obtain ⟨h0, hb⟩ := hc
    rw [if_pos h0] at hs
    rw [hb, if_pos rfl] at hm
    refine ⟨true, ss.set t (sp, 0), bs.set t false, L.set t 0, S.set t 0, M.set t 0, fun W hW => ?_, fun W hW => ?_, hA.set hsl ht (fun _ => Int.le_refl _), fun i hi => ?_, fun i hi => ?_, fun i hi h0 => ?_, fun i hi => ?_⟩
    · have := wResume hW t ht
      unfold goV goS goB at this
      rw [if_pos h0, if_pos ⟨h0, hb⟩, if_pos ⟨h0, hb⟩, hb] at this
      exact this
    · have := rfResume hW t ht
      have e1 : ¬ (nth S t = 0 ∨ nth M t = 0) := by rw [hs, hm]; simp
      rw [if_neg e1, if_neg e1, if_neg e1, if_neg (by omega), if_neg (by omega)] at this
      exact this
    · rw [nth_set (by omega), lf_set (by omega)]
      by_cases ei : t = i
      · subst ei; rw [if_pos rfl, if_pos rfl, if_pos (by show 0 < sp; omega)]; show (0 : Int) = sp - sp; omega
      · rw [if_neg ei, if_neg ei]; exact hT.l i hi
    · rw [nth_set (by omega), lf_set (by omega)]
      by_cases ei : t = i
      · subst ei; rw [if_pos rfl, if_pos rfl, if_neg (by show ¬ sp = 0; omega)]
      · rw [if_neg ei, if_neg ei]; exact hT.s i hi
    · rw [lf_set (by omega)] at h0
      rw [ad_set (by omega)]
      by_cases ei : t = i
      · subst ei; rw [if_pos rfl] at h0; exact absurd h0 (by show ¬ sp = 0; omega)
      · rw [if_neg ei] at h0; rw [if_neg ei]; exact hT.a i hi h0
    · rw [nth_set (by omega), nthO_set (by omega)]
      by_cases ei : t = i
      · subst ei; rw [if_pos rfl, if_pos rfl]; rfl
      · rw [if_neg ei, if_neg ei]; exact hT.m i hi
  · refine ⟨goV ss bs t, ss, bs, L, S, M, fun W hW => ?_, fun W hW => ?_, hA, hT⟩
    · have := wResume hW t ht
      unfold goS goB at this
      rw [if_neg hc, if_neg hc] at this
      exact this
    · have := rfResume hW t ht
      have e1 : nth S t = 0 ∨ nth M t = 0 := by
        by_cases e : lf ss t = 0
        · have : nthO false bs t = false := by simpa using fun e2 => hc ⟨e, e2⟩
          right; rw [hm, this]; rfl
        · left; rw [hs, if_neg e]
      rw [if_pos e1, if_pos e1, if_pos e1] at this
      have e2 : (if nth S t = 0 then (1 : Int) else if nth M t = 0 then 0 else 1) = onei (goV ss bs t) := by
        rw [hs, hm]
        unfold goV onei
        by_cases e : lf ss t = 0
        · cases hb : nthO false bs t
          · simp [e]
          · exact absurd ⟨e, hb⟩ hc
        · simp [e]
      rw [e2] at this
      exact this

/-- Truths as numbers. -/
def ones01 (bs : List Bool) : List Int := bs.map fun b => if b then 1 else 0
theorem ones01_at (bs : List Bool) {t : Nat} (h : t < bs.length) : nth (ones01 bs) t = if nthO false bs t then 1 else 0 := by
  simp [ones01, nth, nthO, List.getD_eq_getElem?_getD, h]
/-- Behind the document's Wrote, with the permits written out. -/
def RfWroteQ (w : World) (x l s a m n : Nat) (sp : Int) (L S A M1 xs : List Int) (e : Ending) (w' : World) : Prop :=
  ∃ v, e = .returned v ∧ Lst .i64 3 w' v xs ∧ Rf w' x l s a m n sp L S A M1 ∧ (∀ y, v.ownBlock = some y → w.heap.size ≤ y) ∧ Within w w' (InRf l s a m)
theorem rfWroteQ (hT : Tie n sp ss bs L S A M) (hlb : bs.length = n) (h : Rf w x l s a m n sp L S A M) (c b : Int) :
    Calls Try.prog 14 #[.pointer (some ⟨x, 0, none⟩), .int .i64 c, .int .i64 b] w (RfWroteQ w x l s a m n sp L S A (ones01 (wokeB ss bs c b n)) (woke ss bs c b n)) := by
  refine (rfWrote h hT hlb c b).mono ?_
  rintro e w' ⟨v, M', rfl, hL, hR, hT', hb, hk⟩
  have hl := wokeB_len ss bs c b n
  have eM : M' = ones01 (wokeB ss bs c b n) := by
    apply List.ext_getElem?
    intro i
    by_cases hi : i < n
    · rw [nth_get (by rw [hR.len.2.2.2]; exact hi), nth_get (by simp [ones01]; omega), hT'.m i hi, ones01_at _ (by omega)]
    · rw [List.getElem?_eq_none (by rw [hR.len.2.2.2]; omega), List.getElem?_eq_none (by simp [ones01]; omega)]
  subst eM
  exact ⟨v, rfl, hL, hR, hb, hk⟩
theorem tie_wrote (hT : Tie n sp ss bs L S A M) (hlb : bs.length = n) (c b : Int) : Tie n sp ss (wokeB ss bs c b n) L S A (ones01 (wokeB ss bs c b n)) :=
  ⟨hT.l, hT.s, hT.a, fun t ht => ones01_at _ (by rw [wokeB_len]; omega)⟩
/-- A list in a row behind block B. -/
def LsB (B : Nat) (xs : List Int) (v : Value) (W : World) : Prop := Lst .i64 3 W v xs ∧ ∀ y, v.ownBlock = some y → B < y
theorem LsB.below {B : Nat} {xs : List Int} {v : Value} {W W' : World} (h : LsB B xs v W) (hb : Below W.heap.size W W') : LsB B xs v W' := ⟨h.1.kept (r := none) (grown_of_below hb) (by cases h : v.ownBlock <;> simp), h.2⟩
theorem LsB.step {B : Nat} {xs : List Int} {v : Value} {W W' : World} (h : LsB B xs v W) (hb : Within W W' (fun b => b < B)) : LsB B xs v W' := ⟨h.1.within hb (fun y e h2 => by have := h.2 y e; omega), h.2⟩
end
end Go.Proofs.Ytjdnellafephfaa
