/- For every two ints and every list of calls: ParkPlays returns true, so whoever looks, sleeps, is woken and goes on, each answer, and all that there is, is what the document says, and every call comes back; no condition. -/
import Derived.Test.YtjdnellafephfaaParkS
import Derived.Test.YtjdnellafephfaaRecs
import Derived.Test.YtjdnellafephfaaStg
import Derived.Deep.DeepCutAuto
import Derived.Deep.LoopGhost
import Derived.Deep.CutBlock
import Derived.WalkKit
import Derived.ProofKit
import Derived.OpenShut
import Derived.ChangeOld
namespace Go.Proofs.Ytjdnellafephfaa.parkPlays
open Go.ChangeShapes Go.WideShapes Go.ChangeAt Go.RowKit
set_option linter.unusedVariables false

theorem own : ownKnob Try.prog.godebug = none := by kernel_rfl
theorem laidOut : laidOutB Try.prog = true := by kernel_rfl

/-- What the cells of a call are: Kind, T, Addr. -/
def Cell2 (j : Nat) (u : Value) : Prop :=
  match j with
  | 0 => ∃ x, u = .int .i64 x ∧ (Lit.int .i64 x).wf = true
  | 1 => ∃ x, u = .int .i64 x ∧ (Lit.int .i64 x).wf = true
  | 2 => ∃ x, u = .int .i64 x ∧ (Lit.int .i64 x).wf = true
  | _ => True

/-- At each round's head: the waits, and the document's numbers, say the same. -/
structure Rel (w wr : World) (p q g n : Nat) (sp : Int) (x l s a m : Nat) (ss : List (Int × Int)) (bs : List Bool) (L S A M : List Int) : Prop where
  wt : Wt wr p q g n sp ss bs
  rf : Rf wr x l s a m n sp L S A M
  tie : Tie n sp ss bs L S A M
  gr : w.grownBy wr none
  hg : w.heap.size ≤ g
  hr : w.heap.size ≤ x ∧ w.heap.size ≤ l ∧ w.heap.size ≤ s ∧ w.heap.size ≤ a ∧ w.heap.size ≤ m
  ad : Adr n ss
  px : p < x ∧ p < l ∧ p < s ∧ p < a ∧ p < m

/-- The stages of a statement that asks the program, then the document. -/
def PkS (w : World) (p q g n : Nat) (sp : Int) (x l s a m B : Nat) (kd t ad0 : Int) (ss ss1 : List (Int × Int)) (bs bs1 : List Bool) (L S A M L1 S1 A1 M1 : List Int) (c1 c2 k : Nat) (W : World) : Prop :=
  Stg (fun W => Wt W p q g n sp ss bs) (fun W => Wt W p q g n sp ss1 bs1) (fun W => Rf W x l s a m n sp L S A M) (fun W => Rf W x l s a m n sp L1 S1 A1 M1) (fun W => Bk W B 31 #[.int .i64 kd, .int .i64 t, .int .i64 ad0] ∧ w.grownBy W none) c1 c2 k W
section
variable {w : World} {p q g n : Nat} {sp : Int} {x l s a m B : Nat} {kd t ad0 : Int} {ss ss1 : List (Int × Int)} {bs bs1 : List Bool} {L S A M L1 S1 A1 M1 : List Int} {c1 c2 k : Nat} {W W' : World}
theorem pk_mono (hb : Below W.heap.size W W') (h : PkS w p q g n sp x l s a m B kd t ad0 ss ss1 bs bs1 L S A M L1 S1 A1 M1 c1 c2 k W) : PkS w p q g n sp x l s a m B kd t ad0 ss ss1 bs bs1 L S A M L1 S1 A1 M1 c1 c2 k W' := by
  have hg := grown_of_below hb
  exact stg_mono (fun h => Wt.grown h hg) (fun h => Wt.grown h hg) (fun h => Rf.grown h hg) (fun h => Rf.grown h hg) (fun h => ⟨h.1.grown hg (by simp), grown_then h.2 hg (.inl rfl)⟩) h
theorem pk_cells (h : PkS w p q g n sp x l s a m B kd t ad0 ss ss1 bs bs1 L S A M L1 S1 A1 M1 c1 c2 k W) : W.cell? ⟨B, 0, none⟩ = some (.int .i64 kd) ∧ W.cell? ⟨B, 1, none⟩ = some (.int .i64 t) ∧ W.cell? ⟨B, 2, none⟩ = some (.int .i64 ad0) ∧ W.cell? ⟨x, 1, none⟩ = some (.slice (some ⟨l, 0, none⟩) n n) ∧ W.cell? ⟨x, 2, none⟩ = some (.slice (some ⟨s, 0, none⟩) n n) := by
  obtain ⟨h1, h2⟩ := stg_any (X := W.cell? ⟨x, 1, none⟩ = some (.slice (some ⟨l, 0, none⟩) n n) ∧ W.cell? ⟨x, 2, none⟩ = some (.slice (some ⟨s, 0, none⟩) n n)) (fun h => ⟨Rf.c1 h, Rf.c2 h⟩) (fun h => ⟨Rf.c1 h, Rf.c2 h⟩) h
  exact ⟨h2.1.cell 0, h2.1.cell 1, h2.1.cell 2, h1.1, h1.2⟩
theorem pk_one (hg : w.heap.size ≤ g) (hpx : p < x ∧ p < l ∧ p < s ∧ p < a ∧ p < m) (hpB : p < B) (h1 : k < c1) (h2 : k < c2) (h3 : k + 1 = c1) (h4 : c1 < c2)
    (h : PkS w p q g n sp x l s a m B kd t ad0 ss ss1 bs bs1 L S A M L1 S1 A1 M1 c1 c2 k W) (hw : Wt W' p q g n sp ss1 bs1) (hk : Within W W' (InWt q g n)) : PkS w p q g n sp x l s a m B kd t ad0 ss ss1 bs bs1 L S A M L1 S1 A1 M1 c1 c2 (k + 1) W' := by
  obtain ⟨hA, hB, hC1, hC2⟩ := stg_a h1 h2 h
  refine stg_of_b (by omega) (by omega) ⟨hw, hB.kept hk (fun e => by have := hA.in_lt e; omega) (fun b hb e => by
    have := hA.in_lt e
    rcases hb with rfl | rfl | rfl | rfl <;> omega), hC1.within hk (fun e => by have := hA.in_lt e; omega), hA.more hg hC2 hk⟩
theorem pk_two (hr : w.heap.size ≤ x ∧ w.heap.size ≤ l ∧ w.heap.size ≤ s ∧ w.heap.size ≤ a ∧ w.heap.size ≤ m) (hpx : p < x ∧ p < l ∧ p < s ∧ p < a ∧ p < m) (hB : x < B ∧ l < B ∧ s < B ∧ a < B ∧ m < B) (h1 : ¬ k < c1) (h2 : k < c2) (h3 : k + 1 = c2)
    (h : PkS w p q g n sp x l s a m B kd t ad0 ss ss1 bs bs1 L S A M L1 S1 A1 M1 c1 c2 k W) (hw : Rf W' x l s a m n sp L1 S1 A1 M1) (hk : Within W W' (InRf l s a m)) : PkS w p q g n sp x l s a m B kd t ad0 ss ss1 bs bs1 L S A M L1 S1 A1 M1 c1 c2 (k + 1) W' := by
  obtain ⟨hA, hB', hC1, hC2⟩ := stg_b h1 h2 h
  refine stg_of_c (by omega) (by omega) ⟨hA.kept hk (fun b _ hb e => by rcases e with rfl | rfl | rfl | rfl <;> omega), hw, hC1.within hk (fun e => by rcases e with rfl | rfl | rfl | rfl <;> omega),
    ((Within.of_grown (S := fun _ => False) hC2 (by simp)).then_ hk (fun i hi => .inr (by rcases hi with rfl | rfl | rfl | rfl <;> omega))).grown (by simp)⟩
end

theorem Rel.grown {w wr wr' : World} {p q g n : Nat} {sp : Int} {x l s a m : Nat} {ss : List (Int × Int)} {bs : List Bool} {L S A M : List Int} (h : Rel w wr p q g n sp x l s a m ss bs L S A M) (k : wr.grownBy wr' none) : Rel w wr' p q g n sp x l s a m ss bs L S A M :=
  ⟨h.wt.grown k, h.rf.grown k, h.tie, grown_then h.gr k (.inl rfl), h.hg, h.hr, h.ad, h.px⟩

set_option maxHeartbeats 4000000 in
set_option maxRecDepth 100000 in
theorem walk (x0 x1 : Int) (a2 : Option Addr) (len2 cap2 : Nat) (w : World) (w0 : (Lit.int .i64 x0).wf = true) (w1 : (Lit.int .i64 x1).wf = true) (g2 : Recs w a2 len2 3 Cell2) (hb2 : len2 ≤ maxLen) :
    Calls Try.prog 3 #[.int .i64 x0, .int .i64 x1, .slice a2 len2 cap2] w fun e w' => e = .returned (.bool true) ∧ Below w.heap.size w w' := by
  unfold maxLen at hb2
  by_cases h100 : 100 < len2
  · go_enter Try.func3, Try.ntmps3
    go_wp2_with fail
    refine (lAwake11 _).mono ?_
    rintro e w2 ⟨rfl, hw2⟩
    go_wp2
    go_ret
    exact ⟨rfl, below_of_grown hw2⟩
  by_cases hn : x0 < 1 ∨ 64 < x0
  · have hN := wNewBadN x0 x1 hn w
    rcases hn with hn | hn
    · go_enter Try.func3, Try.ntmps3
      go_wp2_with fail
      refine hN.mono ?_
      rintro e w2 ⟨rfl, rfl⟩
      go_wp2_with fail
      refine (lAwake11 _).mono ?_
      rintro e w2 ⟨rfl, hw2⟩
      go_wp2
      go_ret
      exact ⟨rfl, below_of_grown hw2⟩
    · have hn' : ¬ x0 < 1 := by omega
      go_enter Try.func3, Try.ntmps3
      go_wp2_with fail
      refine hN.mono ?_
      rintro e w2 ⟨rfl, rfl⟩
      go_wp2_with fail
      refine (lAwake11 _).mono ?_
      rintro e w2 ⟨rfl, hw2⟩
      go_wp2
      go_ret
      exact ⟨rfl, below_of_grown hw2⟩
  obtain ⟨n, rfl⟩ := Int.eq_ofNat_of_zero_le (show 0 ≤ x0 by omega)
  have hn1 : 1 ≤ n := by omega
  have hn2 : n ≤ 64 := by omega
  have k1 : ¬ (n : Int) < 1 := by omega
  have k2 : ¬ (64 : Int) < n := by omega
  clear hn w0
  by_cases hs : x1 < 1 ∨ 1000 < x1
  · have hN := wNewBadS n x1 hn1 hn2 hs w
    rcases hs with hs | hs
    · go_enter Try.func3, Try.ntmps3
      go_wp2_with fail
      refine hN.mono ?_
      rintro e w3 ⟨rfl, hw3⟩
      go_wp2_with fail
      refine (lAwake11 _).mono ?_
      rintro e w2 ⟨rfl, hw2⟩
      go_wp2
      go_ret
      exact ⟨rfl, below_of_grown (grown_then hw3 hw2 (.inl rfl))⟩
    · have hn' : ¬ x1 < 1 := by omega
      go_enter Try.func3, Try.ntmps3
      go_wp2_with fail
      refine hN.mono ?_
      rintro e w3 ⟨rfl, hw3⟩
      go_wp2_with fail
      refine (lAwake11 _).mono ?_
      rintro e w2 ⟨rfl, hw2⟩
      go_wp2
      go_ret
      exact ⟨rfl, below_of_grown (grown_then hw3 hw2 (.inl rfl))⟩
  have hs1 : 1 ≤ x1 := by omega
  have hs2 : x1 ≤ 1000 := by omega
  have k3 : ¬ x1 < 1 := by omega
  have k4 : ¬ 1000 < x1 := by omega
  clear hs w1
  go_enter Try.func3, Try.ntmps3
  go_wp2_with fail
  refine (wNew n x1 hn1 hn2 hs1 hs2 w).mono ?_
  rintro e y1 ⟨p, q, g, rfl, h1, hg, hgr⟩
  go_wp2_with fail
  refine (rfNew n x1 hn2 y1).mono ?_
  rintro e y2 ⟨x, l, s, a, m, rfl, h2, ⟨hx, hl, hs, ha, hm⟩, hgr2⟩
  have hR0 : Rel w y2 p q g n x1 x l s a m (List.replicate n (x1, 0)) (List.replicate n false) (List.replicate n 0) (List.replicate n 0) (List.replicate n 0) (List.replicate n 0) := by
    have hpl := h1.lt
    have hss := hgr.size
    refine ⟨h1.grown hgr2, h2, ⟨fun t ht => ?_, fun t ht => ?_, fun t ht h0 => ?_, fun t ht => ?_⟩, grown_then hgr hgr2 (.inl rfl), hg, by omega, fun t ht h0 => ?_, by omega⟩
    · have e1 : lf (List.replicate n (x1, (0 : Int))) t = x1 := by unfold lf; rw [nthO_rep _ _ _ _ ht]
      rw [e1, if_pos (by omega), Int.sub_self]; exact nthO_rep _ _ _ _ ht
    · have e1 : lf (List.replicate n (x1, (0 : Int))) t = x1 := by unfold lf; rw [nthO_rep _ _ _ _ ht]
      rw [e1, if_neg (by omega)]; exact nthO_rep _ _ _ _ ht
    · have e1 : lf (List.replicate n (x1, (0 : Int))) t = x1 := by unfold lf; rw [nthO_rep _ _ _ _ ht]
      omega
    · rw [nthO_none]; exact nthO_rep _ _ _ _ ht
    · have e1 : lf (List.replicate n (x1, (0 : Int))) t = x1 := by unfold lf; rw [nthO_rep _ _ _ _ ht]
      omega
  clear h1 h2 hg hgr hgr2 hx hl hs ha hm
  go_wp2
  go_loopg [63] len2 (fun gk i wr => ∃ (k : Nat) (ss : List (Int × Int)) (bs : List Bool) (L S A M : List Int), k + gk = len2 ∧ i = .int .i64 k ∧ Rel w wr p q g n x1 x l s a m ss bs L S A M)
  case atStart => exact ⟨0, _, _, _, _, _, _, by omega, rfl, hR0⟩
  case round =>
    clear hR0
    obtain ⟨k, ss, bs, L, S, A, M, hk, rfl, hR⟩ := hrel
    by_cases hlt : k < len2
    · obtain ⟨bb, off, rfl, hcs⟩ := g2.at_ hlt (below_of_grown hR.gr)
      obtain ⟨_, r0, kd, rfl, hkd⟩ := hcs 0 (by omega)
      obtain ⟨_, r1, T, rfl, hT⟩ := hcs 1 (by omega)
      obtain ⟨_, r2, ad0, rfl, hAd⟩ := hcs 2 (by omega)
      clear hcs hkd hT hAd
      rw [Nat.add_zero] at r0
      have hB := Bk.made wr 31 #[.int .i64 kd, .int .i64 T, .int .i64 ad0]
      have hA := grown_made wr (.cells #[.int .i64 kd, .int .i64 T, .int .i64 ad0] 31) none
      have hRA := Lib.hid (hR.grown hA)
      have o0 := hB.cell 0
      have o1 := hB.cell 1
      have o2 := hB.cell 2
      simp only [List.getElem?_toArray, List.getElem?_cons_zero, List.getElem?_cons_succ] at o0 o1 o2
      by_cases hs0 : T < 0
      · clear hA hR
        go_wp2
        go_roundg (gk - 1)
        case rel => exact ⟨k + 1, _, _, _, _, _, _, by omega, by go_num, hRA.out⟩
        case measure => omega
      obtain ⟨t, rfl⟩ := Int.eq_ofNat_of_zero_le (show 0 ≤ T by omega)
      by_cases ht0 : n ≤ t
      · have ht' : (n : Int) ≤ t := by omega
        clear hA hR hs0
        go_wp2
        go_roundg (gk - 1)
        case rel => exact ⟨k + 1, _, _, _, _, _, _, by omega, by go_num, hRA.out⟩
        case measure => omega
      by_cases hs1 : ad0 < 0
      · have ht' : ¬ (n : Int) ≤ t := by omega
        clear hA hR hs0
        go_wp2
        go_roundg (gk - 1)
        case rel => exact ⟨k + 1, _, _, _, _, _, _, by omega, by go_num, hRA.out⟩
        case measure => omega
      · have ht : t < n := by omega
        have ht' : ¬ (n : Int) ≤ t := by omega
        have had : 0 ≤ ad0 := by omega
        clear hs0 ht0
        go_upto_block 2 with fail
        have HB := Lib.hid hB
        have hxB : x < wr.heap.size ∧ l < wr.heap.size ∧ s < wr.heap.size ∧ a < wr.heap.size ∧ m < wr.heap.size := ⟨hR.rf.hd.lt, hR.rf.rl.lt, hR.rf.rs.lt, hR.rf.ra.lt, hR.rf.rm.lt⟩
        have hpB := hR.wt.lt
        clear hB hA hR r0 r1 r2 o0 o1 o2
        generalize wr.heap.size = B at HB hxB hpB ⊢
        generalize wr.alloc (.cells #[.int .i64 kd, .int .i64 t, .int .i64 ad0] 31) = wa at HB hRA ⊢
        have o0 := HB.out.cell 0
        have o1 := HB.out.cell 1
        have o2 := HB.out.cell 2
        simp only [List.getElem?_toArray, List.getElem?_cons_zero, List.getElem?_cons_succ] at o0 o1 o2
        go_cut [] (fun wx => ∃ (ss : List (Int × Int)) (bs : List Bool) (L S A M : List Int), Rel w wx p q g n x1 x l s a m ss bs L S A M)
        case first =>
          by_cases hk1 : kd = 1
          · subst hk1
            as_aux_lemma =>
              have hR := hRA.out
              have hsl := hR.tie.s t ht
              have x2 := hR.rf.c2
              have xs := hR.rf.as ht
              rw [hsl] at xs
              by_cases hl0 : lf ss t = 0
              · rw [if_pos hl0] at xs
                clear hsl hl0 hR
                go_upto_region 15 with fail
                go_quiet (fail)
                go_wp2
                go_meet
                case rel => exact ⟨_, _, _, _, _, _, hRA.out.grown (grown_draws (grown_refl _ none) _)⟩
              · rw [if_neg hl0] at xs hsl
                have hlp : 0 < lf ss t := by have := hR.wt.rng t ht; omega
                obtain ⟨b1, ss1, L1, S1, A1, M1, hc1, hc2, hAd, hTie⟩ := both_look hR.wt hR.rf hR.tie t ht hlp ad0 had hR.ad
                have HI : Hid (PkS w p q g n x1 x l s a m B 1 t ad0 ss ss1 bs bs L S A M L1 S1 A1 M1 4 6 0 wa) := Lib.hid (stg_of_a (by decide) (by decide) ⟨hR.wt, hR.rf, HB.out, hR.gr⟩)
                have HS : Hid (∀ W, Rf W x l s a m n x1 L S A M → W.cell? ⟨s, t, none⟩ = some (.int .i64 0)) := Lib.hid fun W hW => by have := hW.as ht; rw [hsl] at this; exact this
                have H1 := Lib.hid hc1
                have H2 := Lib.hid hc2
                have HG := Lib.hid (And.intro hR.hg (And.intro hR.hr (And.intro hR.px (And.intro hxB hpB))))
                have HT := Lib.hid (And.intro hAd hTie)
                clear hc1 hc2 hAd hTie hlp hl0 hsl hR hxB hpB xs x2 o0 o1 o2
                go_upto_region 15 with fail
                refine wp_region_flow [7, 8, 9, 15, 16, 22] (PkS w p q g n x1 x l s a m B 1 t ad0 ss ss1 bs bs L S A M L1 S1 A1 M1 4 6) (fun _ _ _ => True) (fun vs => { tmps := #[.int .i64 (n : Int), .int .i64 x1, .slice (some ⟨bb, off, none⟩) len2 cap2, undef, undef, undef, u6, .pointer (some ⟨p, 0, none⟩), .int .i64 0, .pointer (some ⟨x, 0, none⟩), undef, .pointer (some ⟨B, 0, none⟩), u12, u13, u14, u15, u16, u17, u18, .slice (some ⟨bb, off, none⟩) len2 cap2, .int .i64 (len2 : Int), .bool (decide (100 < (len2 : Int))), undef, .tuple #[.pointer (some ⟨p, 0, none⟩), .int .i64 0], .int .i64 (n : Int), .int .i64 x1, .tuple #[.pointer (some ⟨p, 0, none⟩), .int .i64 0], .pointer (some ⟨p, 0, none⟩), .int .i64 0, .int .i64 (n : Int), .bool (decide ((n : Int) < 1)), .bool (decide ((n : Int) < 1)), .int .i64 (n : Int), .bool (decide (64 < (n : Int))), .bool (decide ((n : Int) < 1) || decide (64 < (n : Int))), .bool (decide ((n : Int) < 1) || decide (64 < (n : Int))), .int .i64 x1, .bool (decide (x1 < 1)), .bool (decide ((n : Int) < 1) || decide (64 < (n : Int)) || decide (x1 < 1)), .bool (decide ((n : Int) < 1) || decide (64 < (n : Int)) || decide (x1 < 1)), .int .i64 x1, .bool (decide (1000 < x1)), .bool (decide ((n : Int) < 1) || decide (64 < (n : Int)) || decide (x1 < 1) || decide (1000 < x1)), undef, undef, undef, undef, undef, undef, undef, undef, undef, .int .i64 0, .bool false, .bool false, .pointer (some ⟨p, 0, none⟩), .bool false, .bool false, .int .i64 (n : Int), .int .i64 x1, .pointer (some ⟨x, 0, none⟩), .slice (some ⟨bb, off, none⟩) len2 cap2, .int .i64 (len2 : Int), .int .i64 (k : Int), .bool true, .pointer (some ⟨bb, off + k * 3, none⟩), .agg #[.int .i64 1, .int .i64 (t : Int), .int .i64 ad0], .pointer (some ⟨B, 1, none⟩), .int .i64 (t : Int), .bool (decide ((t : Int) < 0)), .bool (decide ((t : Int) < 0)), .pointer (some ⟨B, 1, none⟩), .int .i64 (t : Int), .int .i64 (n : Int), .bool false, .bool (decide ((t : Int) < 0)), .bool (decide ((t : Int) < 0)), .pointer (some ⟨B, 2, none⟩), .int .i64 ad0, .bool false, .bool (decide ((t : Int) < 0)), .pointer (some ⟨B, 0, none⟩), .int .i64 1, .bool true, .bool true, vs 0, vs 1, vs 2, vs 3, vs 4, vs 5, vs 6, vs 7, vs 8, vs 9, vs 10, vs 11, vs 12, vs 13, vs 14, vs 15, vs 16, vs 17, vs 18, vs 19, vs 20, vs 21, vs 22, vs 23, vs 24, u110, u111, u112, u113, u114, u115, u116, u117, u118, u119, u120, u121, u122, u123, u124, u125, u126, u127, u128, u129, u130, u131, u132, u133, u134, u135, u136, u137, u138, u139, u140, u141, u142, u143, u144, u145, u146, u147, u148, u149, u150, u151, u152, u153, u154, u155, u156, u157, u158, u159, u160, u161, u162, u163, u164, u165, u166, u167, u168, u169, u170, u171, u172, u173, u174, u175, u176, u177, u178, u179, u180, u181, u182, u183, u184, u185, u186, u187, u188, u189, u190, u191, u192, u193, u194, u195, u196, u197, u198, u199, u200, u201, u202, u203, u204, u205, u206, u207, u208, u209, u210, u211, u212, u213, u214, u215, u216, u217, u218, u219, u220, u221, u222, u223, u224, u225, u226, u227, undef], defers := [] }) (valT [.pointer (some ⟨x, 0, none⟩), .pointer (some ⟨x, 0, none⟩), .pointer (some ⟨x, 2, none⟩), .slice (some ⟨s, 0, none⟩) n n, .pointer (some ⟨B, 1, none⟩), .int .i64 (t : Int), .pointer (some ⟨s, t, none⟩), .int .i64 0, .bool true, .bool true, .pointer (some ⟨p, 0, none⟩), .pointer (some ⟨B, 1, none⟩), .int .i64 (t : Int), .pointer (some ⟨B, 2, none⟩), .int .i64 ad0, .bool b1, .int .i64 (onei b1), .pointer (some ⟨x, 0, none⟩), .pointer (some ⟨B, 1, none⟩), .int .i64 (t : Int), .pointer (some ⟨B, 2, none⟩), .int .i64 ad0, .int .i64 (onei b1), .bool false, .bool false]) ?ghm ?ghr ?ghc ?ghnd ?ghlit ?gh0 ?ghW ?ghF ?ghS ?gops ?gdone
                case ghm => kernel_rfl
                case ghr => kernel_rfl
                case ghc => kernel_rfl
                case ghnd => decide
                case ghlit => intro vs; rfl
                case gh0 => exact HI.out
                case ghW => exact fun k W W2 h hb => pk_mono hb h
                case ghF => exact valT_stable
                case ghS => exact fun k W W2 _ _ i v h => h
                case gops =>
                  refine ⟨?_, ?_, ?_, ?_, ?_, ?_, ?_, ?_, ?_, ?_, ?_, ?_, ?_, ?_, ?_, ?_, ?_, ?_, ?_, ?_, ?_, ?_, ?_, ?_, ?_, trivial⟩
                  · intro vs W kk h1 h2 hW hd
                    refine leaves_free rfl ?_
                    clear hd
                    go_simp
                    exact ⟨rfl, Below.refl _ _⟩
                  · intro vs W kk h1 h2 hW hd
                    refine leaves_free rfl ?_
                    have e0 : vs 0 = .pointer (some ⟨x, 0, none⟩) := hd 0 (by decide)
                    clear hd
                    go_simp
                    exact ⟨rfl, Below.refl _ _⟩
                  · intro vs W kk h1 h2 hW hd
                    refine leaves_free rfl ?_
                    have e1 : vs 1 = .pointer (some ⟨x, 0, none⟩) := hd 1 (by decide)
                    clear hd
                    go_simp
                    exact ⟨rfl, Below.refl _ _⟩
                  · intro vs W kk h1 h2 hW hd
                    refine leaves_free rfl ?_
                    have e2 : vs 2 = .pointer (some ⟨x, 2, none⟩) := hd 2 (by decide)
                    obtain ⟨o0, o1, o2, x1c, x2c⟩ := pk_cells hW
                    clear hd
                    go_simp
                    exact ⟨rfl, Below.refl _ _⟩
                  · intro vs W kk h1 h2 hW hd
                    refine leaves_free rfl ?_
                    clear hd
                    go_simp
                    exact ⟨rfl, Below.refl _ _⟩
                  · intro vs W kk h1 h2 hW hd
                    refine leaves_free rfl ?_
                    have e4 : vs 4 = .pointer (some ⟨B, 1, none⟩) := hd 4 (by decide)
                    obtain ⟨o0, o1, o2, x1c, x2c⟩ := pk_cells hW
                    clear hd
                    go_simp
                    exact ⟨rfl, Below.refl _ _⟩
                  · intro vs W kk h1 h2 hW hd
                    obtain rfl : kk = 0 := Nat.le_zero.1 h2
                    refine leaves_free rfl ?_
                    have e3 : vs 3 = .slice (some ⟨s, 0, none⟩) n n := hd 3 (by decide)
                    have e5 : vs 5 = .int .i64 (t : Int) := hd 5 (by decide)
                    clear hd
                    go_simp
                    exact ⟨rfl, Below.refl _ _⟩
                  · intro vs W hW hd
                    have e6 : vs 6 = .pointer (some ⟨s, t, none⟩) := hd 6 (by decide)
                    have xs := HS.out W (stg_a (by decide) (by decide) hW).2.1
                    refine leavesIf_free rfl ?_
                    clear hd
                    go_simp
                    exact ⟨rfl, stg_next (by decide) (by decide) hW⟩
                  · intro vs W hW hd
                    have e7 : vs 7 = .int .i64 0 := hd 7 (by decide)
                    obtain ⟨o0, o1, o2, x1c, x2c⟩ := pk_cells hW
                    refine leavesIf_free rfl ?_
                    clear hd
                    go_simp
                    exact ⟨rfl, stg_next (by decide) (by decide) hW⟩
                  · intro vs W hW hd
                    have e8 : vs 8 = .bool true := hd 8 (by decide)
                    obtain ⟨o0, o1, o2, x1c, x2c⟩ := pk_cells hW
                    refine leavesIf_free rfl ?_
                    clear hd
                    go_simp
                    exact ⟨rfl, stg_next (by decide) (by decide) hW⟩
                  · intro vs W kk h1 h2 hW hd
                    have eg : vs 9 = .bool true := hd 9 (by decide)
                    refine leaves_guard rfl (by show (match some (vs 9) with | some (.bool b) => some b | _ => none) = some true; rw [eg]) ?_
                    clear eg
                    clear hd
                    go_simp
                    exact ⟨rfl, Below.refl _ _⟩
                  · intro vs W kk h1 h2 hW hd
                    have eg : vs 9 = .bool true := hd 9 (by decide)
                    refine leaves_guard rfl (by show (match some (vs 9) with | some (.bool b) => some b | _ => none) = some true; rw [eg]) ?_
                    clear eg
                    clear hd
                    go_simp
                    exact ⟨rfl, Below.refl _ _⟩
                  · intro vs W kk h1 h2 hW hd
                    have eg : vs 9 = .bool true := hd 9 (by decide)
                    refine leaves_guard rfl (by show (match some (vs 9) with | some (.bool b) => some b | _ => none) = some true; rw [eg]) ?_
                    clear eg
                    have e11 : vs 11 = .pointer (some ⟨B, 1, none⟩) := hd 11 (by decide)
                    obtain ⟨o0, o1, o2, x1c, x2c⟩ := pk_cells hW
                    clear hd
                    go_simp
                    exact ⟨rfl, Below.refl _ _⟩
                  · intro vs W kk h1 h2 hW hd
                    have eg : vs 9 = .bool true := hd 9 (by decide)
                    refine leaves_guard rfl (by show (match some (vs 9) with | some (.bool b) => some b | _ => none) = some true; rw [eg]) ?_
                    clear eg
                    clear hd
                    go_simp
                    exact ⟨rfl, Below.refl _ _⟩
                  · intro vs W kk h1 h2 hW hd
                    have eg : vs 9 = .bool true := hd 9 (by decide)
                    refine leaves_guard rfl (by show (match some (vs 9) with | some (.bool b) => some b | _ => none) = some true; rw [eg]) ?_
                    clear eg
                    have e13 : vs 13 = .pointer (some ⟨B, 2, none⟩) := hd 13 (by decide)
                    obtain ⟨o0, o1, o2, x1c, x2c⟩ := pk_cells hW
                    clear hd
                    go_simp
                    exact ⟨rfl, Below.refl _ _⟩
                  · intro vs W hW hd
                    have eg : vs 9 = .bool true := hd 9 (by decide)
                    have e10 : vs 10 = .pointer (some ⟨p, 0, none⟩) := hd 10 (by decide)
                    have e12 : vs 12 = .int .i64 (t : Int) := hd 12 (by decide)
                    have e14 : vs 14 = .int .i64 ad0 := hd 14 (by decide)
                    obtain ⟨o0, o1, o2, x1c, x2c⟩ := pk_cells hW
                    refine leavesIf_guard rfl (by show (match some (vs 9) with | some (.bool b) => some b | _ => none) = some true; rw [eg]) ?_
                    clear eg
                    clear hd
                    go_simp
                    refine (H1.out W (stg_a (by decide) (by decide) hW).1).mono ?_
                    rintro e W2 ⟨rfl, q1, q2⟩
                    exact ⟨_, rfl, rfl, pk_one HG.out.1 HG.out.2.2.1 HG.out.2.2.2.2 (by decide) (by decide) (by decide) (by decide) hW q1 q2⟩
                  · intro vs W hW hd
                    have eg : vs 9 = .bool true := hd 9 (by decide)
                    have e15 : vs 15 = .bool b1 := hd 15 (by decide)
                    obtain ⟨o0, o1, o2, x1c, x2c⟩ := pk_cells hW
                    refine leavesIf_guard rfl (by show (match some (vs 9) with | some (.bool b) => some b | _ => none) = some true; rw [eg]) ?_
                    clear eg
                    clear hd
                    go_simp
                    refine (rOne11 b1 W).mono ?_
                    rintro e W2 ⟨rfl, rfl⟩
                    exact ⟨_, rfl, rfl, stg_next (by decide) (by decide) hW⟩
                  · intro vs W kk h1 h2 hW hd
                    have eg : vs 9 = .bool true := hd 9 (by decide)
                    refine leaves_guard rfl (by show (match some (vs 9) with | some (.bool b) => some b | _ => none) = some true; rw [eg]) ?_
                    clear eg
                    clear hd
                    go_simp
                    exact ⟨rfl, Below.refl _ _⟩
                  · intro vs W kk h1 h2 hW hd
                    have eg : vs 9 = .bool true := hd 9 (by decide)
                    refine leaves_guard rfl (by show (match some (vs 9) with | some (.bool b) => some b | _ => none) = some true; rw [eg]) ?_
                    clear eg
                    clear hd
                    go_simp
                    exact ⟨rfl, Below.refl _ _⟩
                  · intro vs W kk h1 h2 hW hd
                    have eg : vs 9 = .bool true := hd 9 (by decide)
                    refine leaves_guard rfl (by show (match some (vs 9) with | some (.bool b) => some b | _ => none) = some true; rw [eg]) ?_
                    clear eg
                    have e18 : vs 18 = .pointer (some ⟨B, 1, none⟩) := hd 18 (by decide)
                    obtain ⟨o0, o1, o2, x1c, x2c⟩ := pk_cells hW
                    clear hd
                    go_simp
                    exact ⟨rfl, Below.refl _ _⟩
                  · intro vs W kk h1 h2 hW hd
                    have eg : vs 9 = .bool true := hd 9 (by decide)
                    refine leaves_guard rfl (by show (match some (vs 9) with | some (.bool b) => some b | _ => none) = some true; rw [eg]) ?_
                    clear eg
                    clear hd
                    go_simp
                    exact ⟨rfl, Below.refl _ _⟩
                  · intro vs W kk h1 h2 hW hd
                    have eg : vs 9 = .bool true := hd 9 (by decide)
                    refine leaves_guard rfl (by show (match some (vs 9) with | some (.bool b) => some b | _ => none) = some true; rw [eg]) ?_
                    clear eg
                    have e20 : vs 20 = .pointer (some ⟨B, 2, none⟩) := hd 20 (by decide)
                    obtain ⟨o0, o1, o2, x1c, x2c⟩ := pk_cells hW
                    clear hd
                    go_simp
                    exact ⟨rfl, Below.refl _ _⟩
                  · intro vs W hW hd
                    have eg : vs 9 = .bool true := hd 9 (by decide)
                    have e17 : vs 17 = .pointer (some ⟨x, 0, none⟩) := hd 17 (by decide)
                    have e19 : vs 19 = .int .i64 (t : Int) := hd 19 (by decide)
                    have e21 : vs 21 = .int .i64 ad0 := hd 21 (by decide)
                    obtain ⟨o0, o1, o2, x1c, x2c⟩ := pk_cells hW
                    refine leavesIf_guard rfl (by show (match some (vs 9) with | some (.bool b) => some b | _ => none) = some true; rw [eg]) ?_
                    clear eg
                    clear hd
                    go_simp
                    refine (H2.out W (stg_b (by decide) (by decide) hW).2.1).mono ?_
                    rintro e W2 ⟨rfl, q1, q2⟩
                    exact ⟨_, rfl, rfl, pk_two HG.out.2.1 HG.out.2.2.1 HG.out.2.2.2.1 (by decide) (by decide) (by decide) hW q1 q2⟩
                  · intro vs W kk h1 h2 hW hd
                    have eg : vs 9 = .bool true := hd 9 (by decide)
                    refine leaves_guard rfl (by show (match some (vs 9) with | some (.bool b) => some b | _ => none) = some true; rw [eg]) ?_
                    clear eg
                    have e16 : vs 16 = .int .i64 (onei b1) := hd 16 (by decide)
                    have e22 : vs 22 = .int .i64 (onei b1) := hd 22 (by decide)
                    clear hd
                    go_simp
                    exact ⟨rfl, Below.refl _ _⟩
                  · intro vs W kk h1 h2 hW hd
                    refine leaves_free rfl ?_
                    have e9 : vs 9 = .bool true := hd 9 (by decide)
                    have e23 : vs 23 = .bool false := hd 23 (by decide)
                    clear hd
                    go_simp
                    exact ⟨rfl, Below.refl _ _⟩
                case gdone =>
                  intro vs W hW hf
                  have f0 : vs 0 = .pointer (some ⟨x, 0, none⟩) := hf 0 (by decide)
                  have f1 : vs 1 = .pointer (some ⟨x, 0, none⟩) := hf 1 (by decide)
                  have f2 : vs 2 = .pointer (some ⟨x, 2, none⟩) := hf 2 (by decide)
                  have f3 : vs 3 = .slice (some ⟨s, 0, none⟩) n n := hf 3 (by decide)
                  have f4 : vs 4 = .pointer (some ⟨B, 1, none⟩) := hf 4 (by decide)
                  have f5 : vs 5 = .int .i64 (t : Int) := hf 5 (by decide)
                  have f6 : vs 6 = .pointer (some ⟨s, t, none⟩) := hf 6 (by decide)
                  have f7 : vs 7 = .int .i64 0 := hf 7 (by decide)
                  have f8 : vs 8 = .bool true := hf 8 (by decide)
                  have f9 : vs 9 = .bool true := hf 9 (by decide)
                  have f10 : vs 10 = .pointer (some ⟨p, 0, none⟩) := hf 10 (by decide)
                  have f11 : vs 11 = .pointer (some ⟨B, 1, none⟩) := hf 11 (by decide)
                  have f12 : vs 12 = .int .i64 (t : Int) := hf 12 (by decide)
                  have f13 : vs 13 = .pointer (some ⟨B, 2, none⟩) := hf 13 (by decide)
                  have f14 : vs 14 = .int .i64 ad0 := hf 14 (by decide)
                  have f15 : vs 15 = .bool b1 := hf 15 (by decide)
                  have f16 : vs 16 = .int .i64 (onei b1) := hf 16 (by decide)
                  have f17 : vs 17 = .pointer (some ⟨x, 0, none⟩) := hf 17 (by decide)
                  have f18 : vs 18 = .pointer (some ⟨B, 1, none⟩) := hf 18 (by decide)
                  have f19 : vs 19 = .int .i64 (t : Int) := hf 19 (by decide)
                  have f20 : vs 20 = .pointer (some ⟨B, 2, none⟩) := hf 20 (by decide)
                  have f21 : vs 21 = .int .i64 ad0 := hf 21 (by decide)
                  have f22 : vs 22 = .int .i64 (onei b1) := hf 22 (by decide)
                  have f23 : vs 23 = .bool false := hf 23 (by decide)
                  have f24 : vs 24 = .bool false := hf 24 (by decide)
                  simp only [f0, f1, f2, f3, f4, f5, f6, f7, f8, f9, f10, f11, f12, f13, f14, f15, f16, f17, f18, f19, f20, f21, f22, f23, f24]
                  clear f0 f1 f2 f3 f4 f5 f6 f7 f8 f9 f10 f11 f12 f13 f14 f15 f16 f17 f18 f19 f20 f21 f22 f23 f24 hf
                  have hq := stg_c (by decide) (by decide) hW
                  have HQ := Lib.hid hq
                  clear hW hq
                  go_wp2
                  go_meet
                  case rel => exact ⟨ss1, bs, L1, S1, A1, M1, HQ.out.1, HQ.out.2.1, HT.out.2, HQ.out.2.2.2, HG.out.1, HG.out.2.1, HT.out.1, HG.out.2.2.1⟩
          by_cases hk2 : kd = 2
          · subst hk2
            as_aux_lemma =>
              have hR := hRA.out
              have hsl := hR.tie.s t ht
              have x2 := hR.rf.c2
              have xs := hR.rf.as ht
              rw [hsl] at xs
              by_cases hl0 : lf ss t = 0
              · rw [if_pos hl0] at xs
                clear hsl hl0 hR
                go_upto_region 18 with fail
                go_quiet (fail)
                go_wp2
                go_meet
                case rel => exact ⟨_, _, _, _, _, _, hRA.out.grown (grown_draws (grown_refl _ none) _)⟩
              · rw [if_neg hl0] at xs hsl
                have hlp : 0 < lf ss t := by have := hR.wt.rng t ht; omega
                have HLP := Lib.hid hlp
                clear hsl hl0 hR hlp
                go_upto_region 18 with fail
                go_quiet (fail)
                have hRq := hRA.out.grown (grown_draws (grown_refl wa none) nq)
                have hBq := HB.out.drewN nq
                have hM := wMoved hRq.wt t ht HLP.out
                clear xs x2 o0 o2
                go_wp2_with fail
                refine hM.mono ?_
                clear hM
                rintro e w1 ⟨rfl, hw1, k1⟩
                have hRf1 := hRq.rf.kept k1 (fun e => by have := hRq.wt.in_lt e; have := hRq.px; omega) (fun b hb e => by
                  have h1 := hRq.wt.in_lt e
                  have h2 := hRq.px
                  rcases hb with rfl | rfl | rfl | rfl <;> omega)
                have hB1 := hBq.within k1 (fun e => by have := hRq.wt.in_lt e; omega)
                have hg1 := hRq.wt.more hRq.hg hRq.gr k1
                have x1c := hRf1.c1
                have xl := hRf1.al ht
                have zl := hRf1.rl.free t
                have o1 := hB1.cell 1
                simp only [List.getElem?_toArray, List.getElem?_cons_zero, List.getElem?_cons_succ] at o1
                have b3 : (t : Int) < n := by omega
                have hrf2 := hRf1.putL t 0
                have hnl : x ≠ l := hRf1.xne.1
                have hw2 := hw1.kept (S := fun j => j = l) ((Within.refl w1 _).put l t (.int .i64 0) (.inl rfl)) (fun b _ hb e => by have := hRq.px; omega)
                have hg2 := grown_then hg1 (only_put w1 l t (.int .i64 0)) (.inr fun y e => by injection e with e; have := hRq.hr; omega)
                have hNew : Rel w (w1.setCell ⟨l, t, none⟩ (.int .i64 0)) p q g n x1 x l s a m (ss.set t (x1, 0)) bs (L.set t 0) S A M := ⟨hw2, hrf2, tie_moved hRq.tie hRq.wt.len hRq.rf.len.1 (by omega) t ht HLP.out, hg2, hRq.hg, hRq.hr, hRq.ad.set hRq.wt.len ht (fun _ => Int.le_refl _), hRq.px⟩
                have HN := Lib.hid hNew
                clear hNew hw2 hg2 hrf2 hg1 hB1 hRf1 k1 hw1 hRq hBq
                go_upto_region 20 with fail
                go_region
                all_goals go_wp2
                all_goals go_meet
                case rel => exact ⟨_, _, _, _, _, _, HN.out.grown (grown_draws (grown_refl _ none) _)⟩
          by_cases hk3 : kd = 3
          · subst hk3
            as_aux_lemma =>
              have hR := hRA.out
              have hlb := hR.wt.pm.len
              have HI : Hid (PkS w p q g n x1 x l s a m B 3 t ad0 ss ss bs (wokeB ss bs ad0 t n) L S A M L S A (ones01 (wokeB ss bs ad0 t n)) 1 2 0 wa) := Lib.hid (stg_of_a (by decide) (by decide) ⟨hR.wt, hR.rf, HB.out, hR.gr⟩)
              have H1 : Hid (∀ W, Wt W p q g n x1 ss bs → Calls Try.prog 13 #[.pointer (some ⟨p, 0, none⟩), .int .i64 ad0, .int .i64 t] W (WroteP W p q g n x1 ss (wokeB ss bs ad0 t n) (woke ss bs ad0 t n))) := Lib.hid fun W hW => wWrote hW ad0 t
              have H2 : Hid (∀ W, Rf W x l s a m n x1 L S A M → Calls Try.prog 14 #[.pointer (some ⟨x, 0, none⟩), .int .i64 ad0, .int .i64 t] W (RfWroteQ W x l s a m n x1 L S A (ones01 (wokeB ss bs ad0 t n)) (woke ss bs ad0 t n))) := Lib.hid fun W hW => rfWroteQ hR.tie hlb hW ad0 t
              have HG := Lib.hid (And.intro hR.hg (And.intro hR.hr (And.intro hR.px (And.intro hxB hpB))))
              have HT := Lib.hid (And.intro hR.ad (tie_wrote hR.tie hlb ad0 t))
              have hwl := woke_len ss bs ad0 t n
              clear hlb hR hxB hpB o1 o2
              generalize wokeB ss bs ad0 t n = bs1 at HI H1 H2 HT
              generalize woke ss bs ad0 t n = xs at H1 H2 hwl
              go_upto_region 22 with fail
              refine wp_region_flow [5, 11] (PkS w p q g n x1 x l s a m B 3 t ad0 ss ss bs bs1 L S A M L S A (ones01 bs1) 1 2) (fun _ W W2 => Within W W2 (fun b => b < B)) (fun vs => { tmps := #[.int .i64 (n : Int), .int .i64 x1, .slice (some ⟨bb, off, none⟩) len2 cap2, undef, undef, undef, u6, .pointer (some ⟨p, 0, none⟩), .int .i64 0, .pointer (some ⟨x, 0, none⟩), undef, .pointer (some ⟨B, 0, none⟩), vs 12, vs 13, u14, u15, u16, u17, u18, .slice (some ⟨bb, off, none⟩) len2 cap2, .int .i64 (len2 : Int), .bool (decide (100 < (len2 : Int))), undef, .tuple #[.pointer (some ⟨p, 0, none⟩), .int .i64 0], .int .i64 (n : Int), .int .i64 x1, .tuple #[.pointer (some ⟨p, 0, none⟩), .int .i64 0], .pointer (some ⟨p, 0, none⟩), .int .i64 0, .int .i64 (n : Int), .bool (decide ((n : Int) < 1)), .bool (decide ((n : Int) < 1)), .int .i64 (n : Int), .bool (decide (64 < (n : Int))), .bool (decide ((n : Int) < 1) || decide (64 < (n : Int))), .bool (decide ((n : Int) < 1) || decide (64 < (n : Int))), .int .i64 x1, .bool (decide (x1 < 1)), .bool (decide ((n : Int) < 1) || decide (64 < (n : Int)) || decide (x1 < 1)), .bool (decide ((n : Int) < 1) || decide (64 < (n : Int)) || decide (x1 < 1)), .int .i64 x1, .bool (decide (1000 < x1)), .bool (decide ((n : Int) < 1) || decide (64 < (n : Int)) || decide (x1 < 1) || decide (1000 < x1)), undef, undef, undef, undef, undef, undef, undef, undef, undef, .int .i64 0, .bool false, .bool false, .pointer (some ⟨p, 0, none⟩), .bool false, .bool false, .int .i64 (n : Int), .int .i64 x1, .pointer (some ⟨x, 0, none⟩), .slice (some ⟨bb, off, none⟩) len2 cap2, .int .i64 (len2 : Int), .int .i64 (k : Int), .bool true, .pointer (some ⟨bb, off + k * 3, none⟩), .agg #[.int .i64 3, .int .i64 (t : Int), .int .i64 ad0], .pointer (some ⟨B, 1, none⟩), .int .i64 (t : Int), .bool (decide ((t : Int) < 0)), .bool (decide ((t : Int) < 0)), .pointer (some ⟨B, 1, none⟩), .int .i64 (t : Int), .int .i64 (n : Int), .bool false, .bool (decide ((t : Int) < 0)), .bool (decide ((t : Int) < 0)), .pointer (some ⟨B, 2, none⟩), .int .i64 ad0, .bool false, .bool (decide ((t : Int) < 0)), .pointer (some ⟨B, 0, none⟩), .int .i64 3, .bool false, .bool false, u85, u86, u87, u88, u89, u90, u91, u92, u93, u94, u95, u96, u97, u98, u99, u100, u101, u102, u103, u104, u105, u106, u107, u108, u109, .bool false, .bool false, u112, u113, u114, u115, u116, u117, u118, u119, u120, u121, u122, u123, u124, u125, u126, u127, u128, u129, u130, u131, .bool true, .bool true, vs 0, vs 1, vs 2, vs 3, vs 4, vs 5, vs 6, vs 7, vs 8, vs 9, vs 10, vs 11, u146, u147, u148, u149, u150, u151, u152, u153, u154, u155, u156, u157, u158, u159, u160, u161, u162, u163, u164, u165, u166, u167, u168, u169, u170, u171, u172, u173, u174, u175, u176, u177, u178, u179, u180, u181, u182, u183, u184, u185, u186, u187, u188, u189, u190, u191, u192, u193, u194, u195, u196, u197, u198, u199, u200, u201, u202, u203, u204, u205, u206, u207, u208, u209, u210, u211, u212, u213, u214, u215, u216, u217, u218, u219, u220, u221, u222, u223, u224, u225, u226, u227, undef], defers := [] }) (mixT [(5, LsB B xs), (11, LsB B xs), (12, LsB B xs), (13, LsB B xs)] [.pointer (some ⟨p, 0, none⟩), .pointer (some ⟨B, 2, none⟩), .int .i64 ad0, .pointer (some ⟨B, 1, none⟩), .int .i64 (t : Int), undef, .pointer (some ⟨x, 0, none⟩), .pointer (some ⟨B, 2, none⟩), .int .i64 ad0, .pointer (some ⟨B, 1, none⟩), .int .i64 (t : Int), undef, undef, undef]) ?ghm ?ghr ?ghc ?ghnd ?ghlit ?gh0 ?ghW ?ghF ?ghS ?gops ?gdone
              case ghm => kernel_rfl
              case ghr => kernel_rfl
              case ghc => kernel_rfl
              case ghnd => decide
              case ghlit => intro vs; rfl
              case gh0 => exact HI.out
              case ghW => exact fun k W W2 h hb => pk_mono hb h
              case ghF => exact mixT_stable (by
                intro p hp
                simp only [List.mem_cons, List.not_mem_nil, or_false] at hp
                rcases hp with rfl | rfl | rfl | rfl <;> exact fun v W W2 h hb => LsB.below h hb)
              case ghS => exact fun k W W2 _ hs => fun i v h => mixT_keep (R := fun W W2 => Within W W2 (fun b => b < B)) (by
                intro p hp
                simp only [List.mem_cons, List.not_mem_nil, or_false] at hp
                rcases hp with rfl | rfl | rfl | rfl <;> exact fun v W W2 h hb => LsB.step h hb) i v W W2 h hs
              case gops =>
                refine ⟨?_, ?_, ?_, ?_, ?_, ?_, ?_, ?_, ?_, ?_, ?_, ?_, ?_, ?_, trivial⟩
                · intro vs W kk h1 h2 hW hd
                  obtain rfl : kk = 0 := Nat.le_zero.1 h2
                  refine leaves_free rfl ?_
                  clear hd
                  go_simp
                  exact ⟨rfl, Below.refl _ _⟩
                · intro vs W kk h1 h2 hW hd
                  refine leaves_free rfl ?_
                  clear hd
                  go_simp
                  exact ⟨rfl, Below.refl _ _⟩
                · intro vs W kk h1 h2 hW hd
                  obtain rfl : kk = 0 := Nat.le_zero.1 h2
                  refine leaves_free rfl ?_
                  have e1 : vs 1 = .pointer (some ⟨B, 2, none⟩) := hd 1 (by decide)
                  obtain ⟨o0, o1, o2, x1c, x2c⟩ := pk_cells hW
                  clear hd
                  go_simp
                  exact ⟨rfl, Below.refl _ _⟩
                · intro vs W kk h1 h2 hW hd
                  refine leaves_free rfl ?_
                  clear hd
                  go_simp
                  exact ⟨rfl, Below.refl _ _⟩
                · intro vs W kk h1 h2 hW hd
                  obtain rfl : kk = 0 := Nat.le_zero.1 h2
                  refine leaves_free rfl ?_
                  have e3 : vs 3 = .pointer (some ⟨B, 1, none⟩) := hd 3 (by decide)
                  obtain ⟨o0, o1, o2, x1c, x2c⟩ := pk_cells hW
                  clear hd
                  go_simp
                  exact ⟨rfl, Below.refl _ _⟩
                · intro vs W hW hd
                  have e0 : vs 0 = .pointer (some ⟨p, 0, none⟩) := hd 0 (by decide)
                  have e2 : vs 2 = .int .i64 ad0 := hd 2 (by decide)
                  have e4 : vs 4 = .int .i64 (t : Int) := hd 4 (by decide)
                  obtain ⟨o0, o1, o2, x1c, x2c⟩ := pk_cells hW
                  refine leavesIf_free rfl ?_
                  clear hd
                  go_simp
                  refine (H1.out W (stg_a (by decide) (by decide) hW).1).mono ?_
                  rintro e W2 ⟨v, rfl, q0, q1, q3, q2⟩
                  have hBs := (stg_a (by decide) (by decide) hW).2.2.1.lt
                  have hin := fun i => (stg_a (by decide) (by decide) hW).1.in_lt (b := i)
                  exact ⟨_, rfl, ⟨q0, fun y e => Nat.lt_of_lt_of_le hBs (q3 y e)⟩, pk_one HG.out.1 HG.out.2.2.1 HG.out.2.2.2.2 (by decide) (by decide) (by decide) (by decide) hW q1 q2, q2.wide (fun i hi _ => by have := hin i hi; have := HG.out.2.2.2.2; omega)⟩
                · intro vs W kk h1 h2 hW hd
                  refine leaves_free rfl ?_
                  clear hd
                  go_simp
                  exact ⟨rfl, Below.refl _ _⟩
                · intro vs W kk h1 h2 hW hd
                  refine leaves_free rfl ?_
                  clear hd
                  go_simp
                  exact ⟨rfl, Below.refl _ _⟩
                · intro vs W kk h1 h2 hW hd
                  refine leaves_free rfl ?_
                  have e7 : vs 7 = .pointer (some ⟨B, 2, none⟩) := hd 7 (by decide)
                  obtain ⟨o0, o1, o2, x1c, x2c⟩ := pk_cells hW
                  clear hd
                  go_simp
                  exact ⟨rfl, Below.refl _ _⟩
                · intro vs W kk h1 h2 hW hd
                  refine leaves_free rfl ?_
                  clear hd
                  go_simp
                  exact ⟨rfl, Below.refl _ _⟩
                · intro vs W kk h1 h2 hW hd
                  refine leaves_free rfl ?_
                  have e9 : vs 9 = .pointer (some ⟨B, 1, none⟩) := hd 9 (by decide)
                  obtain ⟨o0, o1, o2, x1c, x2c⟩ := pk_cells hW
                  clear hd
                  go_simp
                  exact ⟨rfl, Below.refl _ _⟩
                · intro vs W hW hd
                  have e6 : vs 6 = .pointer (some ⟨x, 0, none⟩) := hd 6 (by decide)
                  have e8 : vs 8 = .int .i64 ad0 := hd 8 (by decide)
                  have e10 : vs 10 = .int .i64 (t : Int) := hd 10 (by decide)
                  obtain ⟨o0, o1, o2, x1c, x2c⟩ := pk_cells hW
                  refine leavesIf_free rfl ?_
                  clear hd
                  go_simp
                  refine (H2.out W (stg_b (by decide) (by decide) hW).2.1).mono ?_
                  rintro e W2 ⟨v, rfl, q0, q1, q3, q2⟩
                  have hBs := (stg_b (by decide) (by decide) hW).2.2.1.lt
                  exact ⟨_, rfl, ⟨q0, fun y e => Nat.lt_of_lt_of_le hBs (q3 y e)⟩, pk_two HG.out.2.1 HG.out.2.2.1 HG.out.2.2.2.1 (by decide) (by decide) (by decide) hW q1 q2, q2.wide (fun i hi _ => by have := HG.out.2.2.2.1; rcases hi with rfl | rfl | rfl | rfl <;> omega)⟩
                · intro vs W kk h1 h2 hW hd
                  refine leaves_free rfl ?_
                  have h5 : LsB B xs (vs 5) W := hd 5 (by decide)
                  clear hd
                  go_simp
                  exact ⟨h5, Below.refl _ _⟩
                · intro vs W kk h1 h2 hW hd
                  refine leaves_free rfl ?_
                  have h11 : LsB B xs (vs 11) W := hd 11 (by decide)
                  clear hd
                  go_simp
                  exact ⟨h11, Below.refl _ _⟩
              case gdone =>
                intro vs W hW hf
                have f0 : vs 0 = .pointer (some ⟨p, 0, none⟩) := hf 0 (by decide)
                have f1 : vs 1 = .pointer (some ⟨B, 2, none⟩) := hf 1 (by decide)
                have f2 : vs 2 = .int .i64 ad0 := hf 2 (by decide)
                have f3 : vs 3 = .pointer (some ⟨B, 1, none⟩) := hf 3 (by decide)
                have f4 : vs 4 = .int .i64 (t : Int) := hf 4 (by decide)
                have f6 : vs 6 = .pointer (some ⟨x, 0, none⟩) := hf 6 (by decide)
                have f7 : vs 7 = .pointer (some ⟨B, 2, none⟩) := hf 7 (by decide)
                have f8 : vs 8 = .int .i64 ad0 := hf 8 (by decide)
                have f9 : vs 9 = .pointer (some ⟨B, 1, none⟩) := hf 9 (by decide)
                have f10 : vs 10 = .int .i64 (t : Int) := hf 10 (by decide)
                simp only [f0, f1, f2, f3, f4, f6, f7, f8, f9, f10]
                clear f0 f1 f2 f3 f4 f6 f7 f8 f9 f10
                obtain ⟨h12, -⟩ : LsB B xs (vs 12) W := hf 12 (by decide)
                obtain ⟨h13, -⟩ : LsB B xs (vs 13) W := hf 13 (by decide)
                obtain ⟨a12, c12, e12, _, _, i12⟩ := h12.is
                obtain ⟨a13, c13, e13, _, _, i13⟩ := h13.is
                rw [e12, e13]
                have hq := stg_c (by decide) (by decide) hW
                have HQ := Lib.hid hq
                have HI12 := Lib.hid i12
                have HI13 := Lib.hid i13
                clear hW hq hf h12 h13 e12 e13 i12 i13 HI H1 H2 o0
                go_wp2
                go_loopg [153] xs.length (fun gk i wz => ∃ j m : Nat, j + gk = xs.length ∧ i = .int .i64 j ∧ wz = W.drewN m)
                case atStart => exact ⟨0, 0, by omega, rfl, rfl⟩
                case round =>
                  obtain ⟨j, mm, hj, rfl, rfl⟩ := hrel
                  by_cases hjx : j < xs.length
                  · obtain ⟨g12, rfl, _, _, d12⟩ := HI12.out (by omega)
                    obtain ⟨g13, rfl, _, _, d13⟩ := HI13.out (by omega)
                    have c12' := d12 j hjx
                    have c13' := d13 j hjx
                    clear d12 d13
                    generalize nth xs j = xj at c12' c13'
                    go_upto_region 28 with fail
                    go_quiet (fail)
                    go_wp2
                    go_roundg (gk - 1)
                    case rel => exact ⟨j + 1, _, by omega, by go_num, rfl⟩
                    case measure => omega
                  · obtain rfl : j = xs.length := by omega
                    go_wp2
                    go_meet
                    case rel => exact ⟨ss, bs1, L, S, A, _, Rel.grown ⟨HQ.out.1, HQ.out.2.1, HT.out.2, HQ.out.2.2.2, HG.out.1, HG.out.2.1, HT.out.1, HG.out.2.2.1⟩ (grown_draws (grown_refl _ none) _)⟩
          by_cases hk4 : kd = 4
          · subst hk4
            as_aux_lemma =>
              have hR := hRA.out
              obtain ⟨b1, bs1, M1, hc1, hc2, hTie⟩ := both_wake hR.wt hR.rf hR.tie t ht
              have HI : Hid (PkS w p q g n x1 x l s a m B 4 t ad0 ss ss bs bs1 L S A M L S A M1 1 3 0 wa) := Lib.hid (stg_of_a (by decide) (by decide) ⟨hR.wt, hR.rf, HB.out, hR.gr⟩)
              have H1 := Lib.hid hc1
              have H2 := Lib.hid hc2
              have HG := Lib.hid (And.intro hR.hg (And.intro hR.hr (And.intro hR.px (And.intro hxB hpB))))
              have HT := Lib.hid (And.intro hR.ad hTie)
              clear hc1 hc2 hTie hR hxB hpB o1 o2
              go_upto_region 32 with fail
              refine wp_region_flow [3, 4, 8] (PkS w p q g n x1 x l s a m B 4 t ad0 ss ss bs bs1 L S A M L S A M1 1 3) (fun _ _ _ => True) (fun vs => { tmps := #[.int .i64 (n : Int), .int .i64 x1, .slice (some ⟨bb, off, none⟩) len2 cap2, undef, undef, undef, u6, .pointer (some ⟨p, 0, none⟩), .int .i64 0, .pointer (some ⟨x, 0, none⟩), undef, .pointer (some ⟨B, 0, none⟩), u12, u13, u14, u15, u16, u17, u18, .slice (some ⟨bb, off, none⟩) len2 cap2, .int .i64 (len2 : Int), .bool (decide (100 < (len2 : Int))), undef, .tuple #[.pointer (some ⟨p, 0, none⟩), .int .i64 0], .int .i64 (n : Int), .int .i64 x1, .tuple #[.pointer (some ⟨p, 0, none⟩), .int .i64 0], .pointer (some ⟨p, 0, none⟩), .int .i64 0, .int .i64 (n : Int), .bool (decide ((n : Int) < 1)), .bool (decide ((n : Int) < 1)), .int .i64 (n : Int), .bool (decide (64 < (n : Int))), .bool (decide ((n : Int) < 1) || decide (64 < (n : Int))), .bool (decide ((n : Int) < 1) || decide (64 < (n : Int))), .int .i64 x1, .bool (decide (x1 < 1)), .bool (decide ((n : Int) < 1) || decide (64 < (n : Int)) || decide (x1 < 1)), .bool (decide ((n : Int) < 1) || decide (64 < (n : Int)) || decide (x1 < 1)), .int .i64 x1, .bool (decide (1000 < x1)), .bool (decide ((n : Int) < 1) || decide (64 < (n : Int)) || decide (x1 < 1) || decide (1000 < x1)), undef, undef, undef, undef, undef, undef, undef, undef, undef, .int .i64 0, .bool false, .bool false, .pointer (some ⟨p, 0, none⟩), .bool false, .bool false, .int .i64 (n : Int), .int .i64 x1, .pointer (some ⟨x, 0, none⟩), .slice (some ⟨bb, off, none⟩) len2 cap2, .int .i64 (len2 : Int), .int .i64 (k : Int), .bool true, .pointer (some ⟨bb, off + k * 3, none⟩), .agg #[.int .i64 4, .int .i64 (t : Int), .int .i64 ad0], .pointer (some ⟨B, 1, none⟩), .int .i64 (t : Int), .bool (decide ((t : Int) < 0)), .bool (decide ((t : Int) < 0)), .pointer (some ⟨B, 1, none⟩), .int .i64 (t : Int), .int .i64 (n : Int), .bool false, .bool (decide ((t : Int) < 0)), .bool (decide ((t : Int) < 0)), .pointer (some ⟨B, 2, none⟩), .int .i64 ad0, .bool false, .bool (decide ((t : Int) < 0)), .pointer (some ⟨B, 0, none⟩), .int .i64 4, .bool false, .bool false, u85, u86, u87, u88, u89, u90, u91, u92, u93, u94, u95, u96, u97, u98, u99, u100, u101, u102, u103, u104, u105, u106, u107, u108, u109, .bool false, .bool false, u112, u113, u114, u115, u116, u117, u118, u119, u120, u121, u122, u123, u124, u125, u126, u127, u128, u129, u130, u131, .bool false, .bool false, u134, u135, u136, u137, u138, u139, u140, u141, u142, u143, u144, u145, u146, u147, u148, u149, u150, u151, u152, u153, u154, u155, u156, u157, u158, u159, u160, u161, u162, u163, u164, u165, .bool true, .bool true, vs 0, vs 1, vs 2, vs 3, vs 4, vs 5, vs 6, vs 7, vs 8, vs 9, u178, u179, u180, u181, u182, u183, u184, u185, u186, u187, u188, u189, u190, u191, u192, u193, u194, u195, u196, u197, u198, u199, u200, u201, u202, u203, u204, u205, u206, u207, u208, u209, u210, u211, u212, u213, u214, u215, u216, u217, u218, u219, u220, u221, u222, u223, u224, u225, u226, u227, undef], defers := [] }) (valT [.pointer (some ⟨p, 0, none⟩), .pointer (some ⟨B, 1, none⟩), .int .i64 (t : Int), .bool b1, .int .i64 (onei b1), .pointer (some ⟨x, 0, none⟩), .pointer (some ⟨B, 1, none⟩), .int .i64 (t : Int), .int .i64 (onei b1), .bool false]) ?ghm ?ghr ?ghc ?ghnd ?ghlit ?gh0 ?ghW ?ghF ?ghS ?gops ?gdone
              case ghm => kernel_rfl
              case ghr => kernel_rfl
              case ghc => kernel_rfl
              case ghnd => decide
              case ghlit => intro vs; rfl
              case gh0 => exact HI.out
              case ghW => exact fun k W W2 h hb => pk_mono hb h
              case ghF => exact valT_stable
              case ghS => exact fun k W W2 _ _ i v h => h
              case gops =>
                refine ⟨?_, ?_, ?_, ?_, ?_, ?_, ?_, ?_, ?_, ?_, trivial⟩
                · intro vs W kk h1 h2 hW hd
                  obtain rfl : kk = 0 := Nat.le_zero.1 h2
                  refine leaves_free rfl ?_
                  clear hd
                  go_simp
                  exact ⟨rfl, Below.refl _ _⟩
                · intro vs W kk h1 h2 hW hd
                  refine leaves_free rfl ?_
                  clear hd
                  go_simp
                  exact ⟨rfl, Below.refl _ _⟩
                · intro vs W kk h1 h2 hW hd
                  obtain rfl : kk = 0 := Nat.le_zero.1 h2
                  refine leaves_free rfl ?_
                  have e1 : vs 1 = .pointer (some ⟨B, 1, none⟩) := hd 1 (by decide)
                  obtain ⟨o0, o1, o2, x1c, x2c⟩ := pk_cells hW
                  clear hd
                  go_simp
                  exact ⟨rfl, Below.refl _ _⟩
                · intro vs W hW hd
                  have e0 : vs 0 = .pointer (some ⟨p, 0, none⟩) := hd 0 (by decide)
                  have e2 : vs 2 = .int .i64 (t : Int) := hd 2 (by decide)
                  obtain ⟨o0, o1, o2, x1c, x2c⟩ := pk_cells hW
                  refine leavesIf_free rfl ?_
                  clear hd
                  go_simp
                  refine (H1.out W (stg_a (by decide) (by decide) hW).1).mono ?_
                  rintro e W2 ⟨rfl, q1, q2⟩
                  exact ⟨_, rfl, rfl, pk_one HG.out.1 HG.out.2.2.1 HG.out.2.2.2.2 (by decide) (by decide) (by decide) (by decide) hW q1 q2⟩
                · intro vs W hW hd
                  have e3 : vs 3 = .bool b1 := hd 3 (by decide)
                  obtain ⟨o0, o1, o2, x1c, x2c⟩ := pk_cells hW
                  refine leavesIf_free rfl ?_
                  clear hd
                  go_simp
                  refine (rOne11 b1 W).mono ?_
                  rintro e W2 ⟨rfl, rfl⟩
                  exact ⟨_, rfl, rfl, stg_next (by decide) (by decide) hW⟩
                · intro vs W kk h1 h2 hW hd
                  refine leaves_free rfl ?_
                  clear hd
                  go_simp
                  exact ⟨rfl, Below.refl _ _⟩
                · intro vs W kk h1 h2 hW hd
                  refine leaves_free rfl ?_
                  clear hd
                  go_simp
                  exact ⟨rfl, Below.refl _ _⟩
                · intro vs W kk h1 h2 hW hd
                  refine leaves_free rfl ?_
                  have e6 : vs 6 = .pointer (some ⟨B, 1, none⟩) := hd 6 (by decide)
                  obtain ⟨o0, o1, o2, x1c, x2c⟩ := pk_cells hW
                  clear hd
                  go_simp
                  exact ⟨rfl, Below.refl _ _⟩
                · intro vs W hW hd
                  have e5 : vs 5 = .pointer (some ⟨x, 0, none⟩) := hd 5 (by decide)
                  have e7 : vs 7 = .int .i64 (t : Int) := hd 7 (by decide)
                  obtain ⟨o0, o1, o2, x1c, x2c⟩ := pk_cells hW
                  refine leavesIf_free rfl ?_
                  clear hd
                  go_simp
                  refine (H2.out W (stg_b (by decide) (by decide) hW).2.1).mono ?_
                  rintro e W2 ⟨rfl, q1, q2⟩
                  exact ⟨_, rfl, rfl, pk_two HG.out.2.1 HG.out.2.2.1 HG.out.2.2.2.1 (by decide) (by decide) (by decide) hW q1 q2⟩
                · intro vs W kk h1 h2 hW hd
                  refine leaves_free rfl ?_
                  have e4 : vs 4 = .int .i64 (onei b1) := hd 4 (by decide)
                  have e8 : vs 8 = .int .i64 (onei b1) := hd 8 (by decide)
                  clear hd
                  go_simp
                  exact ⟨rfl, Below.refl _ _⟩
              case gdone =>
                intro vs W hW hf
                have f0 : vs 0 = .pointer (some ⟨p, 0, none⟩) := hf 0 (by decide)
                have f1 : vs 1 = .pointer (some ⟨B, 1, none⟩) := hf 1 (by decide)
                have f2 : vs 2 = .int .i64 (t : Int) := hf 2 (by decide)
                have f3 : vs 3 = .bool b1 := hf 3 (by decide)
                have f4 : vs 4 = .int .i64 (onei b1) := hf 4 (by decide)
                have f5 : vs 5 = .pointer (some ⟨x, 0, none⟩) := hf 5 (by decide)
                have f6 : vs 6 = .pointer (some ⟨B, 1, none⟩) := hf 6 (by decide)
                have f7 : vs 7 = .int .i64 (t : Int) := hf 7 (by decide)
                have f8 : vs 8 = .int .i64 (onei b1) := hf 8 (by decide)
                have f9 : vs 9 = .bool false := hf 9 (by decide)
                simp only [f0, f1, f2, f3, f4, f5, f6, f7, f8, f9]
                clear f0 f1 f2 f3 f4 f5 f6 f7 f8 f9 hf
                have hq := stg_c (by decide) (by decide) hW
                have HQ := Lib.hid hq
                clear hW hq
                go_wp2
                go_meet
                case rel => exact ⟨ss, bs1, L, S, A, M1, HQ.out.1, HQ.out.2.1, HT.out.2, HQ.out.2.2.2, HG.out.1, HG.out.2.1, HT.out.1, HG.out.2.2.1⟩
          by_cases hk5 : kd = 5
          · subst hk5
            as_aux_lemma =>
              have hR := hRA.out
              obtain ⟨b1, ss1, bs1, L1, S1, M1, hc1, hc2, hAd, hTie⟩ := both_resume hR.wt hR.rf hR.tie t ht hR.ad
              have HI : Hid (PkS w p q g n x1 x l s a m B 5 t ad0 ss ss1 bs bs1 L S A M L1 S1 A M1 1 3 0 wa) := Lib.hid (stg_of_a (by decide) (by decide) ⟨hR.wt, hR.rf, HB.out, hR.gr⟩)
              have H1 := Lib.hid hc1
              have H2 := Lib.hid hc2
              have HG := Lib.hid (And.intro hR.hg (And.intro hR.hr (And.intro hR.px (And.intro hxB hpB))))
              have HT := Lib.hid (And.intro hAd hTie)
              clear hc1 hc2 hAd hTie hR hxB hpB o1 o2
              go_upto_region 35 with fail
              refine wp_region_flow [3, 4, 8] (PkS w p q g n x1 x l s a m B 5 t ad0 ss ss1 bs bs1 L S A M L1 S1 A M1 1 3) (fun _ _ _ => True) (fun vs => { tmps := #[.int .i64 (n : Int), .int .i64 x1, .slice (some ⟨bb, off, none⟩) len2 cap2, undef, undef, undef, u6, .pointer (some ⟨p, 0, none⟩), .int .i64 0, .pointer (some ⟨x, 0, none⟩), undef, .pointer (some ⟨B, 0, none⟩), u12, u13, u14, u15, u16, u17, u18, .slice (some ⟨bb, off, none⟩) len2 cap2, .int .i64 (len2 : Int), .bool (decide (100 < (len2 : Int))), undef, .tuple #[.pointer (some ⟨p, 0, none⟩), .int .i64 0], .int .i64 (n : Int), .int .i64 x1, .tuple #[.pointer (some ⟨p, 0, none⟩), .int .i64 0], .pointer (some ⟨p, 0, none⟩), .int .i64 0, .int .i64 (n : Int), .bool (decide ((n : Int) < 1)), .bool (decide ((n : Int) < 1)), .int .i64 (n : Int), .bool (decide (64 < (n : Int))), .bool (decide ((n : Int) < 1) || decide (64 < (n : Int))), .bool (decide ((n : Int) < 1) || decide (64 < (n : Int))), .int .i64 x1, .bool (decide (x1 < 1)), .bool (decide ((n : Int) < 1) || decide (64 < (n : Int)) || decide (x1 < 1)), .bool (decide ((n : Int) < 1) || decide (64 < (n : Int)) || decide (x1 < 1)), .int .i64 x1, .bool (decide (1000 < x1)), .bool (decide ((n : Int) < 1) || decide (64 < (n : Int)) || decide (x1 < 1) || decide (1000 < x1)), undef, undef, undef, undef, undef, undef, undef, undef, undef, .int .i64 0, .bool false, .bool false, .pointer (some ⟨p, 0, none⟩), .bool false, .bool false, .int .i64 (n : Int), .int .i64 x1, .pointer (some ⟨x, 0, none⟩), .slice (some ⟨bb, off, none⟩) len2 cap2, .int .i64 (len2 : Int), .int .i64 (k : Int), .bool true, .pointer (some ⟨bb, off + k * 3, none⟩), .agg #[.int .i64 5, .int .i64 (t : Int), .int .i64 ad0], .pointer (some ⟨B, 1, none⟩), .int .i64 (t : Int), .bool (decide ((t : Int) < 0)), .bool (decide ((t : Int) < 0)), .pointer (some ⟨B, 1, none⟩), .int .i64 (t : Int), .int .i64 (n : Int), .bool false, .bool (decide ((t : Int) < 0)), .bool (decide ((t : Int) < 0)), .pointer (some ⟨B, 2, none⟩), .int .i64 ad0, .bool false, .bool (decide ((t : Int) < 0)), .pointer (some ⟨B, 0, none⟩), .int .i64 5, .bool false, .bool false, u85, u86, u87, u88, u89, u90, u91, u92, u93, u94, u95, u96, u97, u98, u99, u100, u101, u102, u103, u104, u105, u106, u107, u108, u109, .bool false, .bool false, u112, u113, u114, u115, u116, u117, u118, u119, u120, u121, u122, u123, u124, u125, u126, u127, u128, u129, u130, u131, .bool false, .bool false, u134, u135, u136, u137, u138, u139, u140, u141, u142, u143, u144, u145, u146, u147, u148, u149, u150, u151, u152, u153, u154, u155, u156, u157, u158, u159, u160, u161, u162, u163, u164, u165, .bool false, .bool false, u168, u169, u170, u171, u172, u173, u174, u175, u176, u177, .bool true, .bool true, vs 0, vs 1, vs 2, vs 3, vs 4, vs 5, vs 6, vs 7, vs 8, vs 9, u190, u191, u192, u193, u194, u195, u196, u197, u198, u199, u200, u201, u202, u203, u204, u205, u206, u207, u208, u209, u210, u211, u212, u213, u214, u215, u216, u217, u218, u219, u220, u221, u222, u223, u224, u225, u226, u227, undef], defers := [] }) (valT [.pointer (some ⟨p, 0, none⟩), .pointer (some ⟨B, 1, none⟩), .int .i64 (t : Int), .bool b1, .int .i64 (onei b1), .pointer (some ⟨x, 0, none⟩), .pointer (some ⟨B, 1, none⟩), .int .i64 (t : Int), .int .i64 (onei b1), .bool false]) ?ghm ?ghr ?ghc ?ghnd ?ghlit ?gh0 ?ghW ?ghF ?ghS ?gops ?gdone
              case ghm => kernel_rfl
              case ghr => kernel_rfl
              case ghc => kernel_rfl
              case ghnd => decide
              case ghlit => intro vs; rfl
              case gh0 => exact HI.out
              case ghW => exact fun k W W2 h hb => pk_mono hb h
              case ghF => exact valT_stable
              case ghS => exact fun k W W2 _ _ i v h => h
              case gops =>
                refine ⟨?_, ?_, ?_, ?_, ?_, ?_, ?_, ?_, ?_, ?_, trivial⟩
                · intro vs W kk h1 h2 hW hd
                  obtain rfl : kk = 0 := Nat.le_zero.1 h2
                  refine leaves_free rfl ?_
                  clear hd
                  go_simp
                  exact ⟨rfl, Below.refl _ _⟩
                · intro vs W kk h1 h2 hW hd
                  refine leaves_free rfl ?_
                  clear hd
                  go_simp
                  exact ⟨rfl, Below.refl _ _⟩
                · intro vs W kk h1 h2 hW hd
                  obtain rfl : kk = 0 := Nat.le_zero.1 h2
                  refine leaves_free rfl ?_
                  have e1 : vs 1 = .pointer (some ⟨B, 1, none⟩) := hd 1 (by decide)
                  obtain ⟨o0, o1, o2, x1c, x2c⟩ := pk_cells hW
                  clear hd
                  go_simp
                  exact ⟨rfl, Below.refl _ _⟩
                · intro vs W hW hd
                  have e0 : vs 0 = .pointer (some ⟨p, 0, none⟩) := hd 0 (by decide)
                  have e2 : vs 2 = .int .i64 (t : Int) := hd 2 (by decide)
                  obtain ⟨o0, o1, o2, x1c, x2c⟩ := pk_cells hW
                  refine leavesIf_free rfl ?_
                  clear hd
                  go_simp
                  refine (H1.out W (stg_a (by decide) (by decide) hW).1).mono ?_
                  rintro e W2 ⟨rfl, q1, q2⟩
                  exact ⟨_, rfl, rfl, pk_one HG.out.1 HG.out.2.2.1 HG.out.2.2.2.2 (by decide) (by decide) (by decide) (by decide) hW q1 q2⟩
                · intro vs W hW hd
                  have e3 : vs 3 = .bool b1 := hd 3 (by decide)
                  obtain ⟨o0, o1, o2, x1c, x2c⟩ := pk_cells hW
                  refine leavesIf_free rfl ?_
                  clear hd
                  go_simp
                  refine (rOne11 b1 W).mono ?_
                  rintro e W2 ⟨rfl, rfl⟩
                  exact ⟨_, rfl, rfl, stg_next (by decide) (by decide) hW⟩
                · intro vs W kk h1 h2 hW hd
                  refine leaves_free rfl ?_
                  clear hd
                  go_simp
                  exact ⟨rfl, Below.refl _ _⟩
                · intro vs W kk h1 h2 hW hd
                  refine leaves_free rfl ?_
                  clear hd
                  go_simp
                  exact ⟨rfl, Below.refl _ _⟩
                · intro vs W kk h1 h2 hW hd
                  refine leaves_free rfl ?_
                  have e6 : vs 6 = .pointer (some ⟨B, 1, none⟩) := hd 6 (by decide)
                  obtain ⟨o0, o1, o2, x1c, x2c⟩ := pk_cells hW
                  clear hd
                  go_simp
                  exact ⟨rfl, Below.refl _ _⟩
                · intro vs W hW hd
                  have e5 : vs 5 = .pointer (some ⟨x, 0, none⟩) := hd 5 (by decide)
                  have e7 : vs 7 = .int .i64 (t : Int) := hd 7 (by decide)
                  obtain ⟨o0, o1, o2, x1c, x2c⟩ := pk_cells hW
                  refine leavesIf_free rfl ?_
                  clear hd
                  go_simp
                  refine (H2.out W (stg_b (by decide) (by decide) hW).2.1).mono ?_
                  rintro e W2 ⟨rfl, q1, q2⟩
                  exact ⟨_, rfl, rfl, pk_two HG.out.2.1 HG.out.2.2.1 HG.out.2.2.2.1 (by decide) (by decide) (by decide) hW q1 q2⟩
                · intro vs W kk h1 h2 hW hd
                  refine leaves_free rfl ?_
                  have e4 : vs 4 = .int .i64 (onei b1) := hd 4 (by decide)
                  have e8 : vs 8 = .int .i64 (onei b1) := hd 8 (by decide)
                  clear hd
                  go_simp
                  exact ⟨rfl, Below.refl _ _⟩
              case gdone =>
                intro vs W hW hf
                have f0 : vs 0 = .pointer (some ⟨p, 0, none⟩) := hf 0 (by decide)
                have f1 : vs 1 = .pointer (some ⟨B, 1, none⟩) := hf 1 (by decide)
                have f2 : vs 2 = .int .i64 (t : Int) := hf 2 (by decide)
                have f3 : vs 3 = .bool b1 := hf 3 (by decide)
                have f4 : vs 4 = .int .i64 (onei b1) := hf 4 (by decide)
                have f5 : vs 5 = .pointer (some ⟨x, 0, none⟩) := hf 5 (by decide)
                have f6 : vs 6 = .pointer (some ⟨B, 1, none⟩) := hf 6 (by decide)
                have f7 : vs 7 = .int .i64 (t : Int) := hf 7 (by decide)
                have f8 : vs 8 = .int .i64 (onei b1) := hf 8 (by decide)
                have f9 : vs 9 = .bool false := hf 9 (by decide)
                simp only [f0, f1, f2, f3, f4, f5, f6, f7, f8, f9]
                clear f0 f1 f2 f3 f4 f5 f6 f7 f8 f9 hf
                have hq := stg_c (by decide) (by decide) hW
                have HQ := Lib.hid hq
                clear hW hq
                go_wp2
                go_meet
                case rel => exact ⟨ss1, bs1, L1, S1, A, M1, HQ.out.1, HQ.out.2.1, HT.out.2, HQ.out.2.2.2, HG.out.1, HG.out.2.1, HT.out.1, HG.out.2.2.1⟩
          have e1 : (kd == 1) = false := by simpa using hk1
          have e2 : (kd == 2) = false := by simpa using hk2
          have e3 : (kd == 3) = false := by simpa using hk3
          have e4 : (kd == 4) = false := by simpa using hk4
          have e5 : (kd == 5) = false := by simpa using hk5
          clear hk1 hk2 hk3 hk4 hk5
          go_wp2
          go_meet
          case rel => exact ⟨_, _, _, _, _, _, hRA.out⟩
        case rest =>
          clear o0 o1 o2 hRA HB
          as_aux_lemma =>
            obtain ⟨ss, bs, L, S, A, M, hR⟩ := hcut
            go_wp2
            obtain ⟨G0, hG0⟩ : ∃ G0, G0 = gk := ⟨_, rfl⟩
            go_loopg [191] n (fun gk i wz => ∃ j : Nat, j + gk = n ∧ i = .int .i64 j ∧ Rel w wz p q g n x1 x l s a m ss bs L S A M)
            case atStart => exact ⟨0, by omega, rfl, hR⟩
            case round =>
              clear hR
              obtain ⟨j, hj, rfl, hR⟩ := hrel
              by_cases hjn : j < n
              · have hP := wParked hR.wt j hjn
                have hQ := rfParked hR.rf j hjn
                have ts := hR.tie.s j hjn
                have ta := hR.tie.a j hjn
                have tm := hR.tie.m j hjn
                have tl := hR.tie.l j hjn
                have hA := hR.ad j hjn
                have hLk := fun W (hW : Wt W p q g n x1 ss bs) => wLooks hW j hjn
                have cl := hR.rf.al hjn
                have c1 := hR.rf.c1
                have e1 : (nth S j = 0 ∨ nth M j = 1) = (¬ (lf ss j = 0 ∧ nthO false bs j = false)) := by
                  rw [eq_iff_iff, ts, tm]
                  by_cases e : lf ss j = 0
                  · cases hb : nthO false bs j <;> simp [e]
                  · simp [e]
                simp only [e1] at hQ
                unfold prkV at hP
                rw [← tl] at hLk
                generalize nth L j = Lj at hLk cl
                have HLk := Lib.hid hLk
                have HRR := Lib.hid hR
                have b3 : (j : Int) < n := by omega
                clear e1 tl tm ts hR
                by_cases hc : lf ss j = 0 ∧ nthO false bs j = false
                · rw [if_pos hc] at hP
                  simp only [hc, and_self, not_true_eq_false, if_false] at hQ
                  have hA := hA hc.1
                  rw [ta hc.1] at hQ
                  clear ta hc
                  generalize ad ss j = aj at hP hQ hA
                  have m1 : ¬ aj < 0 := by omega
                  go_wp2_with fail
                  refine hP.mono ?_
                  clear hP
                  rintro e w' ⟨rfl, rfl⟩
                  go_wp2_with fail
                  refine hQ.mono ?_
                  clear hQ
                  rintro e w' ⟨rfl, rfl⟩
                  go_upto_region 42 with fail
                  go_quiet ((go_at_call 21; exact Calls.quiet_of (HLk.out _ (HRR.out.wt.drewN _))))
                  go_wp2
                  go_roundg (gk - 1)
                  case rel => exact ⟨j + 1, by omega, by go_num, HRR.out.grown (grown_draws (grown_refl _ none) _)⟩
                  case measure => omega
                · rw [if_neg hc] at hP
                  simp only [hc, not_false_eq_true, if_true] at hQ
                  clear ta hc hA
                  go_wp2_with fail
                  refine hP.mono ?_
                  clear hP
                  rintro e w' ⟨rfl, rfl⟩
                  go_wp2_with fail
                  refine hQ.mono ?_
                  clear hQ
                  rintro e w' ⟨rfl, rfl⟩
                  go_upto_region 42 with fail
                  go_quiet ((go_at_call 21; exact Calls.quiet_of (HLk.out _ (HRR.out.wt.drewN _))))
                  go_wp2
                  go_roundg (gk - 1)
                  case rel => exact ⟨j + 1, by omega, by go_num, HRR.out.grown (grown_draws (grown_refl _ none) _)⟩
                  case measure => omega
              · obtain rfl : j = n := by omega
                have HRR := Lib.hid hR
                clear hR
                go_wp2
                go_roundg (G0 - 1)
                case rel => exact ⟨k + 1, _, _, _, _, _, _, by omega, by go_num, HRR.out⟩
                case measure => omega
    · obtain rfl : k = len2 := by omega
      go_wp2_with fail
      refine (lAwake11 _).mono ?_
      rintro e w9 ⟨rfl, hw9⟩
      go_wp2
      go_ret
      exact ⟨rfl, below_of_grown (grown_then hR.gr hw9 (.inl rfl))⟩
set_option maxRecDepth 100000 in
theorem lifted (os : Os) (started : os.Started) (H : Type) (enc : TypeId × Value → H) :
    ReturnsInHanded {} Try.checked os 3 .any (Rows.parkPlaysSpec.pre6 enc Try.prog Try.f3 Rows.parkPlaysRow.domain false) (Rows.parkPlaysSpec.post enc Try.prog Try.f3 false true false false) := by
  refine returnsInHanded_of_change (C := Try.checked) own started (by kernel_rfl) Try.func3
    (ChangeSpec.witness6 (enc := enc) (C := Try.checked) false ⟨#[], #[.int .i64 0, .int .i64 0, .slice none 0 0], []⟩ 8 (by kernel_rfl) (by kernel_rfl) (by kernel_rfl) (by kernel_rfl)) ?_
  intro W base args ds gs before hval0 hW hcnd _
  have hval : ∀ (j : Nat) t v, Try.f3.params[j]? = some t → args[j]? = some v → Value.okWide Try.prog W .any base t v := hval0
  have hW' := hW
  obtain ⟨p, q, hA0, hV, rfl, hfz, hnd⟩ := hW
  have hA : DataW.TrodAll enc Try.prog W 0 (fun _ => true) true Try.f3.params.toList args.toList ds p := hA0
  rw [Try.params3] at hA hval
  obtain ⟨v0, vs0, d0, ds0, p0, q0, hargs, rfl, rfl, h0, r0⟩ := trodAll_cons hA
  obtain ⟨v1, vs1, d1, ds1, p1, q1, rfl, rfl, rfl, h1, r1⟩ := trodAll_cons r0
  obtain ⟨v2, vs2, d2, ds2, p2, q2, rfl, rfl, rfl, h2, r2⟩ := trodAll_cons r1
  obtain ⟨rfl, rfl, rfl⟩ := trodAll_nil r2
  obtain rfl : args = #[v0, v1, v2] := by cases args; simp_all
  obtain ⟨rfl, rfl⟩ := trodVars_none hV
  obtain ⟨x0, rfl, rfl, rfl, w0⟩ := open_int Try.underlying3 (hval 0 3 v0 rfl rfl) h0
  obtain ⟨x1, rfl, rfl, rfl, w1⟩ := open_int Try.underlying3 (hval 1 3 v1 rfl rfl) h1
  obtain ⟨a2, len2, cap2, rfl⟩ := okWide_slice Try.underlying22 (hval 2 22 v2 rfl rfl)
  have k2 := h2
  have lt2 : ∀ x ∈ p2, x.block < W.heap.size := by obtain ⟨m, hm⟩ := k2; exact DataW.trod_lt m _ _ _ hm
  obtain ⟨hb2, g2⟩ : len2 ≤ maxLen ∧ Recs W a2 len2 3 Cell2 := by
    obtain ⟨fuel, hf⟩ := h2
    obtain ⟨hle, hr⟩ := open_recs Try.underlying22 Try.underlying31 (by kernel_rfl) (by kernel_rfl) (by decide) (by simpa [Value.cells] using hf)
    refine ⟨hle, fun h0 => ?_⟩
    obtain ⟨b, off, e, hlt, hc⟩ := hr h0
    refine ⟨b, off, e, hlt, fun i hi j hj => ?_⟩
    obtain ⟨u, hu, hw⟩ := hc i hi j hj
    refine ⟨u, hu, ?_⟩
    match j, hj with
    | 0, _ => obtain ⟨n, y, hy⟩ := hw _ rfl; obtain ⟨x, e, _, wx⟩ := DataW.trod_int Try.underlying3 hy; simp at e; subst e; exact ⟨x, rfl, wx⟩
    | 1, _ => obtain ⟨n, y, hy⟩ := hw _ rfl; obtain ⟨x, e, _, wx⟩ := DataW.trod_int Try.underlying3 hy; simp at e; subst e; exact ⟨x, rfl, wx⟩
    | 2, _ => obtain ⟨n, y, hy⟩ := hw _ rfl; obtain ⟨x, e, _, wx⟩ := DataW.trod_int Try.underlying3 hy; simp at e; subst e; exact ⟨x, rfl, wx⟩
  clear hA0 hval0
  refine (walk x0 x1 a2 len2 cap2 W w0 w1 g2 hb2).mono fun e W' ⟨he, bel⟩ => ?_
  subst he
  exact ⟨_, rfl, _, _, _, [], _, [], hW', trodAll_mk1 (shut_bool Try.underlying4 _), (trodAll_cons_mk (shut_int Try.underlying3 w0) (trodAll_cons_mk (shut_int Try.underlying3 w1) (trodAll_cons_mk (Below.trod laidOut (by kernel_rfl) (of_decide_eq_true (by kernel_rfl)) k2 bel lt2) trodAll_mk0))), rfl, bel.frame _, fun h => by cases h⟩

theorem over : Rows.parkPlaysRow.holds Try.pinned (OpenSpec.ofChange Rows.parkPlaysSpec) :=
  OpenClaim.holds_of_wide 3 Try.f3 rfl rfl rfl rfl rfl rfl rfl ⟨rfl, rfl, rfl, rfl, rfl⟩ rfl rfl rfl rfl rfl (by kernel_rfl) Try.func3 (by kernel_rfl)
    (of_decide_eq_true (by kernel_rfl)) (by unfold Func.isWrapper; first | (rw [if_pos (by decide +kernel)]; kernel_rfl) | (rw [if_neg (by decide +kernel)]; exact ⟨rfl, rfl⟩))
    (fun os started H enc _ => lifted os started H enc)

/-- The statement. -/
theorem proved : Rows.ParkPlaysSaid := over
#print axioms proved
end Go.Proofs.Ytjdnellafephfaa.parkPlays
