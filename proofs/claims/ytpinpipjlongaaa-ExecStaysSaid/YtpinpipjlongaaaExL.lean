/- The law's own functions of layer 10: small, Ref, Right of the document's spec, awake. -/
import Derived.Test.YtpinpipjlongaaaExN
import Derived.Test.YtpinpipjlongaaaArR
import Derived.Test.YtpinpipjlongaaaRefP
import Derived.Test.YtpinpipjlongaaaRightP
namespace Go.Proofs.Ytpinpipjlongaaa
set_option maxRecDepth 100000
open Go.ChangeShapes Go.WideShapes Go.ChangeAt Go.RowKit
set_option linter.unusedVariables false

theorem cells_cases10 {w w1 : World} {zs : List Int} {e : Ending} (h : CellsPost w zs e w1) : w.grownBy w1 none ∧ ∃ va n vc fl, e = .returned (.tuple #[.slice va n vc, .bool fl]) ∧ n ≤ 32768 ∧
    ((RightZ zs ∧ fl = decide ((tot zs : Int) ≤ 8192) ∧ n = tot zs) ∨ (fl = false)) := by
  obtain ⟨hg, ⟨hz, v, rfl, hc⟩ | ⟨hz, rfl⟩⟩ := h
  · refine ⟨hg, ?_⟩
    obtain ⟨va, vc, rfl, _⟩ := hc.is
    refine ⟨va, _, vc, _, rfl, ?_, .inl ⟨hz, rfl, cels_len _⟩⟩
    rw [cels_len]; exact tot_le hz
  · exact ⟨hg, none, 0, 0, false, rfl, by omega, .inr rfl⟩

set_option maxHeartbeats 1000000 in
theorem lSmall {w : World} {v : Value} {c : Prg} {zs init r7 : List Int} {each : Int} (hv : Sv w v c zs init r7 each) (hc : c.l.length ≤ maxLen) :
    Calls Try.prog 4 #[v] w fun e w' => e = .returned (.bool (decide (c.l.length ≤ 80) && (decide (zs.length ≤ 12) && (decide (init.length ≤ 300) && decide (r7.length ≤ 80))))) ∧ Below w.heap.size w w' := by
  obtain ⟨aL, cL, aS, cS, aI, cI, aR, cR, rfl, hpv, hgS, hgI, hgR, hm1, hm2, hm3⟩ := hv
  clear hpv hgS hgI hgR
  unfold maxLen at hc hm1 hm2 hm3
  have b0 : Below w.heap.size w (w.alloc (.cells #[.slice aL c.l.length cL, .int .i64 c.lo, .int .i64 c.un, .slice aS zs.length cS, .slice aI init.length cI, .int .i64 each, .slice aR r7.length cR] 28)) := (Below.refl _ _).alloc (Nat.le_refl _) _
  generalize c.l.length = n1 at *
  generalize zs.length = n2 at *
  generalize init.length = n3 at *
  generalize r7.length = n4 at *
  by_cases h1 : n1 ≤ 80
  · have i1 : (n1 : Int) ≤ 80 := by omega
    by_cases h2 : n2 ≤ 12
    · have i2 : (n2 : Int) ≤ 12 := by omega
      by_cases h3 : n3 ≤ 300
      · have i3 : (n3 : Int) ≤ 300 := by omega
        by_cases h4 : n4 ≤ 80
        · have i4 : (n4 : Int) ≤ 80 := by omega
          have HE : Hid ((decide (n1 ≤ 80) && (decide (n2 ≤ 12) && (decide (n3 ≤ 300) && decide (n4 ≤ 80)))) = true) := Lib.hid (by simp [h1, h2, h3, h4])
          go_enter Try.func4, Try.ntmps4
          go_wp2
          go_ret
          exact ⟨by first | rfl | (rw [HE.out]; rfl), b0⟩
        · have i4 : ¬ (n4 : Int) ≤ 80 := by omega
          have HE : Hid ((decide (n1 ≤ 80) && (decide (n2 ≤ 12) && (decide (n3 ≤ 300) && decide (n4 ≤ 80)))) = false) := Lib.hid (by simp [h4])
          go_enter Try.func4, Try.ntmps4
          go_wp2
          go_ret
          exact ⟨by first | rfl | (rw [HE.out]; rfl), b0⟩
      · have i3 : ¬ (n3 : Int) ≤ 300 := by omega
        have HE : Hid ((decide (n1 ≤ 80) && (decide (n2 ≤ 12) && (decide (n3 ≤ 300) && decide (n4 ≤ 80)))) = false) := Lib.hid (by simp [h3])
        go_enter Try.func4, Try.ntmps4
        go_wp2
        go_ret
        exact ⟨by first | rfl | (rw [HE.out]; rfl), b0⟩
    · have i2 : ¬ (n2 : Int) ≤ 12 := by omega
      have HE : Hid ((decide (n1 ≤ 80) && (decide (n2 ≤ 12) && (decide (n3 ≤ 300) && decide (n4 ≤ 80)))) = false) := Lib.hid (by simp [h2])
      go_enter Try.func4, Try.ntmps4
      go_wp2
      go_ret
      exact ⟨by first | rfl | (rw [HE.out]; rfl), b0⟩
  · have i1 : ¬ (n1 : Int) ≤ 80 := by omega
    have HE : Hid ((decide (n1 ≤ 80) && (decide (n2 ≤ 12) && (decide (n3 ≤ 300) && decide (n4 ≤ 80)))) = false) := Lib.hid (by simp [h1])
    go_enter Try.func4, Try.ntmps4
    go_wp2
    go_ret
    exact ⟨by first | rfl | (rw [HE.out]; rfl), b0⟩

/-- A row isn't where a block of another type has changed. -/
theorem own_safe {W W' : World} {base n sz b : Nat} {t u : TypeId} {v : Value} {xs : List Value} {cs : Array Value} (h : W.ownsRow base t sz v n xs) (hw : Within W W' (fun i => i = b)) (hb : Bk W b u cs) (hne : t ≠ u) : W'.ownsRow base t sz v n xs :=
  own_within h hw fun g e e2 => by
    obtain ⟨cs', hcs⟩ := own_bk h e
    exact Bk.unlike hcs hb hne e2
/-- Seven cells of a block are others. -/
def put7 (y : World) (g : Nat) (a b c d e f h : Value) : World := ((((((y.setCell ⟨g, 0, none⟩ a).setCell ⟨g, 1, none⟩ b).setCell ⟨g, 2, none⟩ c).setCell ⟨g, 3, none⟩ d).setCell ⟨g, 4, none⟩ e).setCell ⟨g, 5, none⟩ f).setCell ⟨g, 6, none⟩ h
theorem put7_bk {y : World} {g : Nat} {t : TypeId} {x0 x1 x2 x3 x4 x5 x6 : Value} (hb : Bk y g t #[x0, x1, x2, x3, x4, x5, x6]) (a b c d e f h : Value) : Bk (put7 y g a b c d e f h) g t #[a, b, c, d, e, f, h] := by
  have h8 := ((((((hb.put 0 a).put 1 b).put 2 c).put 3 d).put 4 e).put 5 f).put 6 h
  unfold put7
  simpa only [List.setIfInBounds_toArray, List.set_cons_zero, List.set_cons_succ] using h8
theorem put7_within {y : World} {g : Nat} (a b c d e f h : Value) : Within y (put7 y g a b c d e f h) (fun i => i = g) := by
  unfold put7
  exact (((((((Within.refl y (fun i => i = g)).put g 0 a (.inl rfl)).put g 1 b (.inl rfl)).put g 2 c (.inl rfl)).put g 3 d (.inl rfl)).put g 4 e (.inl rfl)).put g 5 f (.inl rfl)).put g 6 h (.inl rfl)
theorem put7_below {B : Nat} {w y : World} {g : Nat} (hb : Below B w y) (hg : B ≤ g) (a b c d e f h : Value) : Below B w (put7 y g a b c d e f h) :=
  ((((((hb.setCell hg _).setCell hg _).setCell hg _).setCell hg _).setCell hg _).setCell hg _).setCell hg _

/-- The value v is the document's spec; its program lies in a row of its own, at base or beyond. -/
def Rv (base : Nat) (w : World) (v : Value) (c : Prg) (zs init r7 : List Int) (each : Int) : Prop :=
  ∃ sl aS cS aI cI aR cR, v = .agg #[sl, .int .i64 c.lo, .int .i64 c.un, .slice aS zs.length cS, .slice aI init.length cI, .int .i64 each, .slice aR r7.length cR] ∧
    w.ownsRow base 87 8 sl c.l.length (progC c.l) ∧ Given .i64 w aS zs ∧ Given .u32 w aI init ∧ Given .u32 w aR r7 ∧ zs.length ≤ maxLen ∧ init.length ≤ maxLen ∧ r7.length ≤ maxLen
theorem Rv.below {base : Nat} {w w' : World} {v : Value} {c : Prg} {zs init r7 : List Int} {each : Int} (h : Rv base w v c zs init r7 each) (hb : Below w.heap.size w w') : Rv base w' v c zs init r7 each := by
  obtain ⟨sl, aS, cS, aI, cI, aR, cR, e, h1, h2, h3, h4, h5⟩ := h
  exact ⟨sl, aS, cS, aI, cI, aR, cR, e, own_below h1 hb, h2.below hb, h3.below hb, h4.below hb, h5⟩

set_option maxHeartbeats 1000000 in
theorem lRef10 {w : World} {v : Value} {c : Prg} {zs init r7 : List Int} {each : Int} (hv : Sv w v c zs init r7 each) (hc : c.l.length ≤ 1000) :
    Calls Try.prog 6 #[v] w fun e w' => ∃ v', e = .returned v' ∧ Rv w.heap.size w' v' c zs init r7 each ∧ Below w.heap.size w w' := by
  obtain ⟨aL, cL, aS, cS, aI, cI, aR, cR, rfl, hpv, hgS, hgI, hgR, hm1, hm2, hm3⟩ := hv
  have q0 := (Bk.made w 28 #[.slice aL c.l.length cL, .int .i64 c.lo, .int .i64 c.un, .slice aS zs.length cS, .slice aI init.length cI, .int .i64 each, .slice aR r7.length cR]).alloc (.cells #[.slice none 0 0, .int .i64 0, .int .i64 0, .slice none 0 0, .slice none 0 0, .int .i64 0, .slice none 0 0] 36)
  have q1 := Bk.made (w.alloc (.cells #[.slice aL c.l.length cL, .int .i64 c.lo, .int .i64 c.un, .slice aS zs.length cS, .slice aI init.length cI, .int .i64 each, .slice aR r7.length cR] 28)) 36 #[.slice none 0 0, .int .i64 0, .int .i64 0, .slice none 0 0, .slice none 0 0, .int .i64 0, .slice none 0 0]
  rw [World.size_alloc] at q1
  have b0 : Below w.heap.size w ((w.alloc (.cells #[.slice aL c.l.length cL, .int .i64 c.lo, .int .i64 c.un, .slice aS zs.length cS, .slice aI init.length cI, .int .i64 each, .slice aR r7.length cR] 28)).alloc (.cells #[.slice none 0 0, .int .i64 0, .int .i64 0, .slice none 0 0, .slice none 0 0, .int .i64 0, .slice none 0 0] 36)) := ((Below.refl _ _).alloc (Nat.le_refl _) _).alloc (by simp) _
  go_enter Try.func6, Try.ntmps6
  go_upto_region 1 with fail
  generalize (w.alloc (.cells #[.slice aL c.l.length cL, .int .i64 c.lo, .int .i64 c.un, .slice aS zs.length cS, .slice aI init.length cI, .int .i64 each, .slice aR r7.length cR] 28)).alloc (.cells #[.slice none 0 0, .int .i64 0, .int .i64 0, .slice none 0 0, .slice none 0 0, .int .i64 0, .slice none 0 0] 36) = y at *
  have HRF := Lib.hid (fun W (hW : Below w.heap.size w W) => lRefO c _ W (hpv.below hW) hc)
  have kx : ∀ (W : World) (u : Value) (i j : Nat), (W.setCell ⟨w.heap.size + 1, i, none⟩ u).cell? ⟨w.heap.size, j, none⟩ = W.cell? ⟨w.heap.size, j, none⟩ := fun W u i j => cell_off (by omega)
  have HQ : Hid (∀ W, Below y.heap.size y W → Bk W w.heap.size 28 _ ∧ Bk W (w.heap.size + 1) 36 _ ∧ Below w.heap.size w W) := Lib.hid fun W hW => ⟨(hW.block _ q0.lt).trans q0, (hW.block _ q1.lt).trans q1, b0.trans (hW.mono b0.size)⟩
  obtain ⟨f0, f1, f2, f3, f4, f5, f6⟩ : y.cell? ⟨w.heap.size, 0, none⟩ = some (.slice aL c.l.length cL) ∧ y.cell? ⟨w.heap.size, 1, none⟩ = some (.int .i64 c.lo) ∧ y.cell? ⟨w.heap.size, 2, none⟩ = some (.int .i64 c.un) ∧ y.cell? ⟨w.heap.size, 3, none⟩ = some (.slice aS zs.length cS) ∧ y.cell? ⟨w.heap.size, 4, none⟩ = some (.slice aI init.length cI) ∧ y.cell? ⟨w.heap.size, 5, none⟩ = some (.int .i64 each) ∧ y.cell? ⟨w.heap.size, 6, none⟩ = some (.slice aR r7.length cR) := ⟨q0.cell 0, q0.cell 1, q0.cell 2, q0.cell 3, q0.cell 4, q0.cell 5, q0.cell 6⟩
  refine wp_region_flow [12] (fun j W => match j with | 0 => Below y.heap.size y W | _ => ∃ sl, W.ownsRow w.heap.size 87 8 sl c.l.length (progC c.l) ∧ Bk W (w.heap.size + 1) 36 #[sl, .int .i64 c.lo, .int .i64 c.un, .slice aS zs.length cS, .slice aI init.length cI, .int .i64 each, .slice aR r7.length cR] ∧ Below w.heap.size w W) (fun _ W W2 => Within W W2 (fun i => i = w.heap.size + 1) ∧ Bk W (w.heap.size + 1) 36 #[.slice none 0 0, .int .i64 0, .int .i64 0, .slice none 0 0, .slice none 0 0, .int .i64 0, .slice none 0 0]) (fun vs => { tmps := #[.agg #[.slice aL c.l.length cL, .int .i64 c.lo, .int .i64 c.un, .slice aS zs.length cS, .slice aI init.length cI, .int .i64 each, .slice aR r7.length cR], .pointer (some ⟨w.heap.size, 0, none⟩), .pointer (some ⟨w.heap.size + 1, 0, none⟩), vs 0, vs 1, vs 2, vs 3, vs 4, vs 5, vs 6, vs 7, vs 8, vs 9, vs 10, vs 11], defers := [] }) (mixT [(2, (fun v W => ∃ sl, v = .agg #[sl, .int .i64 c.lo, .int .i64 c.un] ∧ W.ownsRow w.heap.size 87 8 sl c.l.length (progC c.l))), (11, (fun v W => ∃ sl, v = .agg #[sl, .int .i64 c.lo, .int .i64 c.un, .slice aS zs.length cS, .slice aI init.length cI, .int .i64 each, .slice aR r7.length cR] ∧ W.ownsRow w.heap.size 87 8 sl c.l.length (progC c.l)))] [.pointer (some ⟨w.heap.size, 0, none⟩), .agg #[.slice aL c.l.length cL, .int .i64 c.lo, .int .i64 c.un], undef, .pointer (some ⟨w.heap.size, 3, none⟩), .slice aS zs.length cS, .pointer (some ⟨w.heap.size, 4, none⟩), .slice aI init.length cI, .pointer (some ⟨w.heap.size, 5, none⟩), .int .i64 each, .pointer (some ⟨w.heap.size, 6, none⟩), .slice aR r7.length cR, undef, undef]) ?ghm ?ghr ?ghc ?ghnd ?ghlit ?gh0 ?ghW ?ghF ?ghS ?gops ?gdone
  case ghm => kernel_rfl
  case ghr => kernel_rfl
  case ghc => kernel_rfl
  case ghnd => decide
  case ghlit => intro vs; rfl
  case gh0 => exact Below.refl _ _
  case ghW => exact fun kk W W2 h hb => match kk, h with
    | 0, h => h.trans (hb.mono h.size)
    | _ + 1, ⟨sl, h1, h2, h3⟩ => ⟨sl, own_below h1 hb, (hb.block _ h2.lt).trans h2, h3.trans (hb.mono h3.size)⟩
  case ghF => exact mixT_stable (by
    intro p0 hp
    simp only [List.mem_cons, List.not_mem_nil, or_false] at hp
    rcases hp with rfl | rfl
    · rintro v W W2 ⟨sl, e, h⟩ hb; exact ⟨sl, e, own_below h hb⟩
    · rintro v W W2 ⟨sl, e, h⟩ hb; exact ⟨sl, e, own_below h hb⟩)
  case ghS => exact fun kk W W2 _ hs i v h => mixT_keep (R := fun W W2 => Within W W2 (fun i => i = w.heap.size + 1) ∧ Bk W (w.heap.size + 1) 36 #[.slice none 0 0, .int .i64 0, .int .i64 0, .slice none 0 0, .slice none 0 0, .int .i64 0, .slice none 0 0]) (ps := [(2, (fun v W => ∃ sl, v = .agg #[sl, .int .i64 c.lo, .int .i64 c.un] ∧ W.ownsRow w.heap.size 87 8 sl c.l.length (progC c.l))), (11, (fun v W => ∃ sl, v = .agg #[sl, .int .i64 c.lo, .int .i64 c.un, .slice aS zs.length cS, .slice aI init.length cI, .int .i64 each, .slice aR r7.length cR] ∧ W.ownsRow w.heap.size 87 8 sl c.l.length (progC c.l)))]) (l := [.pointer (some ⟨w.heap.size, 0, none⟩), .agg #[.slice aL c.l.length cL, .int .i64 c.lo, .int .i64 c.un], undef, .pointer (some ⟨w.heap.size, 3, none⟩), .slice aS zs.length cS, .pointer (some ⟨w.heap.size, 4, none⟩), .slice aI init.length cI, .pointer (some ⟨w.heap.size, 5, none⟩), .int .i64 each, .pointer (some ⟨w.heap.size, 6, none⟩), .slice aR r7.length cR, undef, undef]) (by
    intro p0 hp
    simp only [List.mem_cons, List.not_mem_nil, or_false] at hp
    rcases hp with rfl | rfl
    · rintro v W W2 ⟨sl, e, h⟩ hs; exact ⟨sl, e, own_safe h hs.1 hs.2 (by decide)⟩
    · rintro v W W2 ⟨sl, e, h⟩ hs; exact ⟨sl, e, own_safe h hs.1 hs.2 (by decide)⟩) i v W W2 h hs
  case gops =>
    refine ⟨?_, ?_, ?_, ?_, ?_, ?_, ?_, ?_, ?_, ?_, ?_, ?_, ?_, trivial⟩
    · intro vs W kk h1 h2 hW hd
      obtain rfl : kk = 0 := Nat.le_zero.1 h2
      refine leaves_free rfl ?_
      clear hd
      go_simp
      exact ⟨rfl, Below.refl _ _⟩
    · intro vs W kk h1 h2 hW hd
      obtain rfl : kk = 0 := Nat.le_zero.1 h2
      refine leaves_free rfl ?_
      have e0 : vs 0 = .pointer (some ⟨w.heap.size, 0, none⟩) := hd 0 (by decide)
      have hq := (HQ.out W hW).1; obtain ⟨f0, f1, f2, f3, f4, f5, f6⟩ : W.cell? ⟨w.heap.size, 0, none⟩ = some (.slice aL c.l.length cL) ∧ W.cell? ⟨w.heap.size, 1, none⟩ = some (.int .i64 c.lo) ∧ W.cell? ⟨w.heap.size, 2, none⟩ = some (.int .i64 c.un) ∧ W.cell? ⟨w.heap.size, 3, none⟩ = some (.slice aS zs.length cS) ∧ W.cell? ⟨w.heap.size, 4, none⟩ = some (.slice aI init.length cI) ∧ W.cell? ⟨w.heap.size, 5, none⟩ = some (.int .i64 each) ∧ W.cell? ⟨w.heap.size, 6, none⟩ = some (.slice aR r7.length cR) := ⟨hq.cell 0, hq.cell 1, hq.cell 2, hq.cell 3, hq.cell 4, hq.cell 5, hq.cell 6⟩; have hr := (HQ.out W hW).2.1; obtain ⟨z0, z1, z2, z3, z4, z5, z6⟩ : W.cell? ⟨w.heap.size + 1, 0, none⟩ = some (.slice none 0 0) ∧ W.cell? ⟨w.heap.size + 1, 1, none⟩ = some (.int .i64 0) ∧ W.cell? ⟨w.heap.size + 1, 2, none⟩ = some (.int .i64 0) ∧ W.cell? ⟨w.heap.size + 1, 3, none⟩ = some (.slice none 0 0) ∧ W.cell? ⟨w.heap.size + 1, 4, none⟩ = some (.slice none 0 0) ∧ W.cell? ⟨w.heap.size + 1, 5, none⟩ = some (.int .i64 0) ∧ W.cell? ⟨w.heap.size + 1, 6, none⟩ = some (.slice none 0 0) := ⟨hr.cell 0, hr.cell 1, hr.cell 2, hr.cell 3, hr.cell 4, hr.cell 5, hr.cell 6⟩; have zf := Bk.free hr; clear hq
      clear hd
      go_simp
      exact ⟨rfl, Below.refl _ _⟩
    · intro vs W kk h1 h2 hW hd
      obtain rfl : kk = 0 := Nat.le_zero.1 h2
      refine leaves_free rfl ?_
      have e1 : vs 1 = .agg #[.slice aL c.l.length cL, .int .i64 c.lo, .int .i64 c.un] := hd 1 (by decide)
      have HS := Lib.hid (HRF.out W (HQ.out W hW).2.2)
      have hsz := (HQ.out W hW).2.2.size
      clear hd
      go_simp
      refine HS.out.mono ?_
      rintro e zz ⟨sl, he, ho, hb⟩
      exact ⟨_, he, ⟨sl, rfl, World.ownsRow.mono (base' := w.heap.size) ho hsz⟩, hb⟩
    · intro vs W kk h1 h2 hW hd
      obtain rfl : kk = 0 := Nat.le_zero.1 h2
      refine leaves_free rfl ?_
      clear hd
      go_simp
      exact ⟨rfl, Below.refl _ _⟩
    · intro vs W kk h1 h2 hW hd
      obtain rfl : kk = 0 := Nat.le_zero.1 h2
      refine leaves_free rfl ?_
      have e3 : vs 3 = .pointer (some ⟨w.heap.size, 3, none⟩) := hd 3 (by decide)
      have hq := (HQ.out W hW).1; obtain ⟨f0, f1, f2, f3, f4, f5, f6⟩ : W.cell? ⟨w.heap.size, 0, none⟩ = some (.slice aL c.l.length cL) ∧ W.cell? ⟨w.heap.size, 1, none⟩ = some (.int .i64 c.lo) ∧ W.cell? ⟨w.heap.size, 2, none⟩ = some (.int .i64 c.un) ∧ W.cell? ⟨w.heap.size, 3, none⟩ = some (.slice aS zs.length cS) ∧ W.cell? ⟨w.heap.size, 4, none⟩ = some (.slice aI init.length cI) ∧ W.cell? ⟨w.heap.size, 5, none⟩ = some (.int .i64 each) ∧ W.cell? ⟨w.heap.size, 6, none⟩ = some (.slice aR r7.length cR) := ⟨hq.cell 0, hq.cell 1, hq.cell 2, hq.cell 3, hq.cell 4, hq.cell 5, hq.cell 6⟩; have hr := (HQ.out W hW).2.1; obtain ⟨z0, z1, z2, z3, z4, z5, z6⟩ : W.cell? ⟨w.heap.size + 1, 0, none⟩ = some (.slice none 0 0) ∧ W.cell? ⟨w.heap.size + 1, 1, none⟩ = some (.int .i64 0) ∧ W.cell? ⟨w.heap.size + 1, 2, none⟩ = some (.int .i64 0) ∧ W.cell? ⟨w.heap.size + 1, 3, none⟩ = some (.slice none 0 0) ∧ W.cell? ⟨w.heap.size + 1, 4, none⟩ = some (.slice none 0 0) ∧ W.cell? ⟨w.heap.size + 1, 5, none⟩ = some (.int .i64 0) ∧ W.cell? ⟨w.heap.size + 1, 6, none⟩ = some (.slice none 0 0) := ⟨hr.cell 0, hr.cell 1, hr.cell 2, hr.cell 3, hr.cell 4, hr.cell 5, hr.cell 6⟩; have zf := Bk.free hr; clear hq
      clear hd
      go_simp
      exact ⟨rfl, Below.refl _ _⟩
    · intro vs W kk h1 h2 hW hd
      obtain rfl : kk = 0 := Nat.le_zero.1 h2
      refine leaves_free rfl ?_
      clear hd
      go_simp
      exact ⟨rfl, Below.refl _ _⟩
    · intro vs W kk h1 h2 hW hd
      obtain rfl : kk = 0 := Nat.le_zero.1 h2
      refine leaves_free rfl ?_
      have e5 : vs 5 = .pointer (some ⟨w.heap.size, 4, none⟩) := hd 5 (by decide)
      have hq := (HQ.out W hW).1; obtain ⟨f0, f1, f2, f3, f4, f5, f6⟩ : W.cell? ⟨w.heap.size, 0, none⟩ = some (.slice aL c.l.length cL) ∧ W.cell? ⟨w.heap.size, 1, none⟩ = some (.int .i64 c.lo) ∧ W.cell? ⟨w.heap.size, 2, none⟩ = some (.int .i64 c.un) ∧ W.cell? ⟨w.heap.size, 3, none⟩ = some (.slice aS zs.length cS) ∧ W.cell? ⟨w.heap.size, 4, none⟩ = some (.slice aI init.length cI) ∧ W.cell? ⟨w.heap.size, 5, none⟩ = some (.int .i64 each) ∧ W.cell? ⟨w.heap.size, 6, none⟩ = some (.slice aR r7.length cR) := ⟨hq.cell 0, hq.cell 1, hq.cell 2, hq.cell 3, hq.cell 4, hq.cell 5, hq.cell 6⟩; have hr := (HQ.out W hW).2.1; obtain ⟨z0, z1, z2, z3, z4, z5, z6⟩ : W.cell? ⟨w.heap.size + 1, 0, none⟩ = some (.slice none 0 0) ∧ W.cell? ⟨w.heap.size + 1, 1, none⟩ = some (.int .i64 0) ∧ W.cell? ⟨w.heap.size + 1, 2, none⟩ = some (.int .i64 0) ∧ W.cell? ⟨w.heap.size + 1, 3, none⟩ = some (.slice none 0 0) ∧ W.cell? ⟨w.heap.size + 1, 4, none⟩ = some (.slice none 0 0) ∧ W.cell? ⟨w.heap.size + 1, 5, none⟩ = some (.int .i64 0) ∧ W.cell? ⟨w.heap.size + 1, 6, none⟩ = some (.slice none 0 0) := ⟨hr.cell 0, hr.cell 1, hr.cell 2, hr.cell 3, hr.cell 4, hr.cell 5, hr.cell 6⟩; have zf := Bk.free hr; clear hq
      clear hd
      go_simp
      exact ⟨rfl, Below.refl _ _⟩
    · intro vs W kk h1 h2 hW hd
      obtain rfl : kk = 0 := Nat.le_zero.1 h2
      refine leaves_free rfl ?_
      clear hd
      go_simp
      exact ⟨rfl, Below.refl _ _⟩
    · intro vs W kk h1 h2 hW hd
      obtain rfl : kk = 0 := Nat.le_zero.1 h2
      refine leaves_free rfl ?_
      have e7 : vs 7 = .pointer (some ⟨w.heap.size, 5, none⟩) := hd 7 (by decide)
      have hq := (HQ.out W hW).1; obtain ⟨f0, f1, f2, f3, f4, f5, f6⟩ : W.cell? ⟨w.heap.size, 0, none⟩ = some (.slice aL c.l.length cL) ∧ W.cell? ⟨w.heap.size, 1, none⟩ = some (.int .i64 c.lo) ∧ W.cell? ⟨w.heap.size, 2, none⟩ = some (.int .i64 c.un) ∧ W.cell? ⟨w.heap.size, 3, none⟩ = some (.slice aS zs.length cS) ∧ W.cell? ⟨w.heap.size, 4, none⟩ = some (.slice aI init.length cI) ∧ W.cell? ⟨w.heap.size, 5, none⟩ = some (.int .i64 each) ∧ W.cell? ⟨w.heap.size, 6, none⟩ = some (.slice aR r7.length cR) := ⟨hq.cell 0, hq.cell 1, hq.cell 2, hq.cell 3, hq.cell 4, hq.cell 5, hq.cell 6⟩; have hr := (HQ.out W hW).2.1; obtain ⟨z0, z1, z2, z3, z4, z5, z6⟩ : W.cell? ⟨w.heap.size + 1, 0, none⟩ = some (.slice none 0 0) ∧ W.cell? ⟨w.heap.size + 1, 1, none⟩ = some (.int .i64 0) ∧ W.cell? ⟨w.heap.size + 1, 2, none⟩ = some (.int .i64 0) ∧ W.cell? ⟨w.heap.size + 1, 3, none⟩ = some (.slice none 0 0) ∧ W.cell? ⟨w.heap.size + 1, 4, none⟩ = some (.slice none 0 0) ∧ W.cell? ⟨w.heap.size + 1, 5, none⟩ = some (.int .i64 0) ∧ W.cell? ⟨w.heap.size + 1, 6, none⟩ = some (.slice none 0 0) := ⟨hr.cell 0, hr.cell 1, hr.cell 2, hr.cell 3, hr.cell 4, hr.cell 5, hr.cell 6⟩; have zf := Bk.free hr; clear hq
      clear hd
      go_simp
      exact ⟨rfl, Below.refl _ _⟩
    · intro vs W kk h1 h2 hW hd
      obtain rfl : kk = 0 := Nat.le_zero.1 h2
      refine leaves_free rfl ?_
      clear hd
      go_simp
      exact ⟨rfl, Below.refl _ _⟩
    · intro vs W kk h1 h2 hW hd
      obtain rfl : kk = 0 := Nat.le_zero.1 h2
      refine leaves_free rfl ?_
      have e9 : vs 9 = .pointer (some ⟨w.heap.size, 6, none⟩) := hd 9 (by decide)
      have hq := (HQ.out W hW).1; obtain ⟨f0, f1, f2, f3, f4, f5, f6⟩ : W.cell? ⟨w.heap.size, 0, none⟩ = some (.slice aL c.l.length cL) ∧ W.cell? ⟨w.heap.size, 1, none⟩ = some (.int .i64 c.lo) ∧ W.cell? ⟨w.heap.size, 2, none⟩ = some (.int .i64 c.un) ∧ W.cell? ⟨w.heap.size, 3, none⟩ = some (.slice aS zs.length cS) ∧ W.cell? ⟨w.heap.size, 4, none⟩ = some (.slice aI init.length cI) ∧ W.cell? ⟨w.heap.size, 5, none⟩ = some (.int .i64 each) ∧ W.cell? ⟨w.heap.size, 6, none⟩ = some (.slice aR r7.length cR) := ⟨hq.cell 0, hq.cell 1, hq.cell 2, hq.cell 3, hq.cell 4, hq.cell 5, hq.cell 6⟩; have hr := (HQ.out W hW).2.1; obtain ⟨z0, z1, z2, z3, z4, z5, z6⟩ : W.cell? ⟨w.heap.size + 1, 0, none⟩ = some (.slice none 0 0) ∧ W.cell? ⟨w.heap.size + 1, 1, none⟩ = some (.int .i64 0) ∧ W.cell? ⟨w.heap.size + 1, 2, none⟩ = some (.int .i64 0) ∧ W.cell? ⟨w.heap.size + 1, 3, none⟩ = some (.slice none 0 0) ∧ W.cell? ⟨w.heap.size + 1, 4, none⟩ = some (.slice none 0 0) ∧ W.cell? ⟨w.heap.size + 1, 5, none⟩ = some (.int .i64 0) ∧ W.cell? ⟨w.heap.size + 1, 6, none⟩ = some (.slice none 0 0) := ⟨hr.cell 0, hr.cell 1, hr.cell 2, hr.cell 3, hr.cell 4, hr.cell 5, hr.cell 6⟩; have zf := Bk.free hr; clear hq
      clear hd
      go_simp
      exact ⟨rfl, Below.refl _ _⟩
    · intro vs W kk h1 h2 hW hd
      obtain rfl : kk = 0 := Nat.le_zero.1 h2
      refine leaves_free rfl ?_
      have e4 : vs 4 = .slice aS zs.length cS := hd 4 (by decide)
      have e6 : vs 6 = .slice aI init.length cI := hd 6 (by decide)
      have e8 : vs 8 = .int .i64 each := hd 8 (by decide)
      have e10 : vs 10 = .slice aR r7.length cR := hd 10 (by decide)
      obtain ⟨sl, e2, ho⟩ : ∃ sl, vs 2 = .agg #[sl, .int .i64 c.lo, .int .i64 c.un] ∧ W.ownsRow w.heap.size 87 8 sl c.l.length (progC c.l) := hd 2 (by decide)
      clear hd
      go_simp
      exact ⟨⟨sl, rfl, ho⟩, Below.refl _ _⟩
    · intro vs W hW hd
      obtain ⟨sl, e11, ho⟩ : ∃ sl, vs 11 = .agg #[sl, .int .i64 c.lo, .int .i64 c.un, .slice aS zs.length cS, .slice aI init.length cI, .int .i64 each, .slice aR r7.length cR] ∧ W.ownsRow w.heap.size 87 8 sl c.l.length (progC c.l) := hd 11 (by decide)
      obtain ⟨aL9, cL9, rfl, -⟩ := own_is ho
      have hq := (HQ.out W hW).1; obtain ⟨f0, f1, f2, f3, f4, f5, f6⟩ : W.cell? ⟨w.heap.size, 0, none⟩ = some (.slice aL c.l.length cL) ∧ W.cell? ⟨w.heap.size, 1, none⟩ = some (.int .i64 c.lo) ∧ W.cell? ⟨w.heap.size, 2, none⟩ = some (.int .i64 c.un) ∧ W.cell? ⟨w.heap.size, 3, none⟩ = some (.slice aS zs.length cS) ∧ W.cell? ⟨w.heap.size, 4, none⟩ = some (.slice aI init.length cI) ∧ W.cell? ⟨w.heap.size, 5, none⟩ = some (.int .i64 each) ∧ W.cell? ⟨w.heap.size, 6, none⟩ = some (.slice aR r7.length cR) := ⟨hq.cell 0, hq.cell 1, hq.cell 2, hq.cell 3, hq.cell 4, hq.cell 5, hq.cell 6⟩; have hr := (HQ.out W hW).2.1; obtain ⟨z0, z1, z2, z3, z4, z5, z6⟩ : W.cell? ⟨w.heap.size + 1, 0, none⟩ = some (.slice none 0 0) ∧ W.cell? ⟨w.heap.size + 1, 1, none⟩ = some (.int .i64 0) ∧ W.cell? ⟨w.heap.size + 1, 2, none⟩ = some (.int .i64 0) ∧ W.cell? ⟨w.heap.size + 1, 3, none⟩ = some (.slice none 0 0) ∧ W.cell? ⟨w.heap.size + 1, 4, none⟩ = some (.slice none 0 0) ∧ W.cell? ⟨w.heap.size + 1, 5, none⟩ = some (.int .i64 0) ∧ W.cell? ⟨w.heap.size + 1, 6, none⟩ = some (.slice none 0 0) := ⟨hr.cell 0, hr.cell 1, hr.cell 2, hr.cell 3, hr.cell 4, hr.cell 5, hr.cell 6⟩; have zf := Bk.free hr; clear hq
      refine leavesIf_free rfl ?_
      clear hd
      go_simp
      exact ⟨rfl, ⟨.slice aL9 c.l.length cL9, own_safe ho (put7_within (y := W) (g := w.heap.size + 1) (.slice aL9 c.l.length cL9) (.int .i64 c.lo) (.int .i64 c.un) (.slice aS zs.length cS) (.slice aI init.length cI) (.int .i64 each) (.slice aR r7.length cR)) hr (by decide), put7_bk hr (.slice aL9 c.l.length cL9) (.int .i64 c.lo) (.int .i64 c.un) (.slice aS zs.length cS) (.slice aI init.length cI) (.int .i64 each) (.slice aR r7.length cR), put7_below (HQ.out W hW).2.2 (by omega) (.slice aL9 c.l.length cL9) (.int .i64 c.lo) (.int .i64 c.un) (.slice aS zs.length cS) (.slice aI init.length cI) (.int .i64 each) (.slice aR r7.length cR)⟩, put7_within (y := W) (g := w.heap.size + 1) (.slice aL9 c.l.length cL9) (.int .i64 c.lo) (.int .i64 c.un) (.slice aS zs.length cS) (.slice aI init.length cI) (.int .i64 each) (.slice aR r7.length cR)⟩
  case gdone =>
    intro vs W hW hf
    have f0 : vs 0 = .pointer (some ⟨w.heap.size, 0, none⟩) := hf 0 (by decide)
    have f1 : vs 1 = .agg #[.slice aL c.l.length cL, .int .i64 c.lo, .int .i64 c.un] := hf 1 (by decide)
    have f3 : vs 3 = .pointer (some ⟨w.heap.size, 3, none⟩) := hf 3 (by decide)
    have f4 : vs 4 = .slice aS zs.length cS := hf 4 (by decide)
    have f5 : vs 5 = .pointer (some ⟨w.heap.size, 4, none⟩) := hf 5 (by decide)
    have f6 : vs 6 = .slice aI init.length cI := hf 6 (by decide)
    have f7 : vs 7 = .pointer (some ⟨w.heap.size, 5, none⟩) := hf 7 (by decide)
    have f8 : vs 8 = .int .i64 each := hf 8 (by decide)
    have f9 : vs 9 = .pointer (some ⟨w.heap.size, 6, none⟩) := hf 9 (by decide)
    have f10 : vs 10 = .slice aR r7.length cR := hf 10 (by decide)
    simp only [f0, f1, f3, f4, f5, f6, f7, f8, f9, f10]
    clear f0 f1 f3 f4 f5 f6 f7 f8 f9 f10
    obtain ⟨sl, ho, hB, hb⟩ : ∃ sl, W.ownsRow w.heap.size 87 8 sl c.l.length (progC c.l) ∧ Bk W (w.heap.size + 1) 36 #[sl, .int .i64 c.lo, .int .i64 c.un, .slice aS zs.length cS, .slice aI init.length cI, .int .i64 each, .slice aR r7.length cR] ∧ Below w.heap.size w W := hW
    clear hf HQ HRF kx f0 f1 f2 f3 f4 f5 f6 q0 q1
    obtain ⟨f0, f1, f2, f3, f4, f5, f6⟩ : W.cell? ⟨w.heap.size + 1, 0, none⟩ = some sl ∧ W.cell? ⟨w.heap.size + 1, 1, none⟩ = some (.int .i64 c.lo) ∧ W.cell? ⟨w.heap.size + 1, 2, none⟩ = some (.int .i64 c.un) ∧ W.cell? ⟨w.heap.size + 1, 3, none⟩ = some (.slice aS zs.length cS) ∧ W.cell? ⟨w.heap.size + 1, 4, none⟩ = some (.slice aI init.length cI) ∧ W.cell? ⟨w.heap.size + 1, 5, none⟩ = some (.int .i64 each) ∧ W.cell? ⟨w.heap.size + 1, 6, none⟩ = some (.slice aR r7.length cR) := ⟨hB.cell 0, hB.cell 1, hB.cell 2, hB.cell 3, hB.cell 4, hB.cell 5, hB.cell 6⟩
    go_wp
    exact bodyPost_ret (v := .agg #[sl, .int .i64 c.lo, .int .i64 c.un, .slice aS zs.length cS, .slice aI init.length cI, .int .i64 each, .slice aR r7.length cR]) (by simp [results, Try.results6, go_sem, f0, f1, f2, f3, f4, f5, f6]) rfl ⟨_, rfl, ⟨sl, aS, cS, aI, cI, aR, cR, rfl, ho, hgS.below hb, hgI.below hb, hgR.below hb, hm1, hm2, hm3⟩, hb⟩

/-- What is known of a spec that may be. -/
structure OkSv (c : Prg) (zs init r7 : List Int) (each threads : Int) : Prop where
  rz : RightZ zs
  few : tot zs ≤ 8192
  len : init.length = tot zs
  n1 : 1 ≤ threads
  n64 : threads ≤ 64
  e0 : 0 ≤ each
  e8 : each ≤ 8
  rl : (r7.length : Int) = threads
  code : prgB c = true

/-- A result false says nothing; true says that the spec may be. -/
def RightTells (w : World) (P : Prop) (e : Ending) (w' : World) : Prop := Below w.heap.size w w' ∧ (e = .returned (.bool false) ∨ (e = .returned (.bool true) ∧ P))

set_option maxHeartbeats 4000000 in
theorem rRight10 {base : Nat} {w : World} {v : Value} {c : Prg} {zs init r7 : List Int} {each : Int} (hv : Rv base w v c zs init r7 each) (hw : ∀ i ∈ c.l, i.Wf) (t : Int) :
    Calls Try.prog 5 #[v, .int .i64 t] w (RightTells w (OkSv c zs init r7 each t)) := by
  obtain ⟨sl, aS, cS, aI, cI, aR, cR, rfl, ho, hgS, hgI, hgR, hm1, hm2, hm3⟩ := hv
  obtain ⟨aL, cL, rfl, _⟩ := own_is ho
  have q0 := Bk.made w 36 #[.slice aL c.l.length cL, .int .i64 c.lo, .int .i64 c.un, .slice aS zs.length cS, .slice aI init.length cI, .int .i64 each, .slice aR r7.length cR]
  have b0 : Below w.heap.size w (w.alloc (.cells #[.slice aL c.l.length cL, .int .i64 c.lo, .int .i64 c.un, .slice aS zs.length cS, .slice aI init.length cI, .int .i64 each, .slice aR r7.length cR] 36)) := (Below.refl _ _).alloc (Nat.le_refl _) _
  go_enter Try.func5, Try.ntmps5
  go_upto_region 1 with fail
  have hpv := fun W (hW : Below w.heap.size w W) => own_pv (own_below ho hW)
  have HPV := Lib.hid hpv
  clear hpv ho
  generalize w.alloc (.cells #[.slice aL c.l.length cL, .int .i64 c.lo, .int .i64 c.un, .slice aS zs.length cS, .slice aI init.length cI, .int .i64 each, .slice aR r7.length cR] 36) = y at *
  have hC := rCells (hgS.below b0) hm1 cS
  have y1 : y.cell? ⟨w.heap.size, 3, none⟩ = some (.slice aS zs.length cS) := q0.cell 3
  go_wp2_with fail
  refine hC.mono ?_
  intro e z hcp
  obtain ⟨hgr, va, n, vc, fl, rfl, hn, hcase⟩ := cells_cases10 hcp
  have hz := below_of_grown hgr
  have q1 := (hz.block _ q0.lt).trans q0
  have b1 := b0.trans (hz.mono b0.size)
  clear hC hcp hgr hz q0 b0 y1
  have HB := Lib.hid b1
  unfold maxLen at hm1 hm2 hm3
  obtain ⟨f0, f1, f2, f3, f4, f5, f6⟩ : z.cell? ⟨w.heap.size, 0, none⟩ = some (.slice aL c.l.length cL) ∧ z.cell? ⟨w.heap.size, 1, none⟩ = some (.int .i64 c.lo) ∧ z.cell? ⟨w.heap.size, 2, none⟩ = some (.int .i64 c.un) ∧ z.cell? ⟨w.heap.size, 3, none⟩ = some (.slice aS zs.length cS) ∧ z.cell? ⟨w.heap.size, 4, none⟩ = some (.slice aI init.length cI) ∧ z.cell? ⟨w.heap.size, 5, none⟩ = some (.int .i64 each) ∧ z.cell? ⟨w.heap.size, 6, none⟩ = some (.slice aR r7.length cR) := ⟨Bk.cell q1 0, Bk.cell q1 1, Bk.cell q1 2, Bk.cell q1 3, Bk.cell q1 4, Bk.cell q1 5, Bk.cell q1 6⟩
  clear q1 b1
  cases fl with
  | false =>
    clear hcase
    go_wp2
    go_ret
    exact ⟨HB.out, .inl rfl⟩
  | true =>
    have hR : RightZ zs ∧ tot zs ≤ 8192 ∧ n = tot zs := by
      rcases hcase with ⟨h1, h2, h3⟩ | h
      · exact ⟨h1, by have := of_decide_eq_true h2.symm; omega, h3⟩
      · cases h
    have HR := Lib.hid hR
    clear hR hcase
    by_cases h1 : n = init.length
    · have i1 : ((n : Int) == (init.length : Int)) = true := by simp; omega
      have HL := Lib.hid h1
      clear h1
      by_cases h2 : 1 ≤ t
      · by_cases h3 : t ≤ 64
        · by_cases h4 : 0 ≤ each
          · by_cases h5 : each ≤ 8
            · by_cases h6 : (r7.length : Int) = t
              · have i6 : ((r7.length : Int) == t) = true := by simpa using h6
                have HE := Lib.hid h6
                clear h6
                have hRP := rRightP c _ z (HPV.out z HB.out) hw
                go_wp2_with fail
                refine hRP.mono ?_
                rintro e z2 ⟨rfl, hz2⟩
                have HB2 := Lib.hid (HB.out.trans (hz2.mono HB.out.size))
                clear hz2 f0 f1 f2 f3 f4 f5 f6
                cases hpb : prgB c with
                | false =>
                  go_wp2
                  go_ret
                  exact ⟨HB2.out, .inl rfl⟩
                | true =>
                  go_wp2
                  go_ret
                  exact ⟨HB2.out, .inr ⟨rfl, HR.out.1, HR.out.2.1, by rw [← HL.out]; exact HR.out.2.2, h2, h3, h4, h5, HE.out, hpb⟩⟩
              · have i6 : ((r7.length : Int) == t) = false := by simpa using h6
                go_wp2
                go_ret
                exact ⟨HB.out, .inl rfl⟩
            · go_wp2
              go_ret
              exact ⟨HB.out, .inl rfl⟩
          · go_wp2
            go_ret
            exact ⟨HB.out, .inl rfl⟩
        · go_wp2
          go_ret
          exact ⟨HB.out, .inl rfl⟩
      · go_wp2
        go_ret
        exact ⟨HB.out, .inl rfl⟩
    · have i1 : ((n : Int) == (init.length : Int)) = false := by simp; omega
      go_wp2
      go_ret
      exact ⟨HB.out, .inl rfl⟩

/-- The example's lock. -/
def awkK : Lk := ⟨[⟨20, 1, 0, 0, 0, 0, 1, 0⟩, ⟨13, 0, 0, 0, 0, 0, 1, 0⟩], 0, 0, [1], 0, 1⟩
theorem awkK_ok : OkLk awkK := by
  refine ⟨by decide, ?_, ⟨by decide, ?_⟩, by decide, by decide, by decide, by decide⟩
  · intro i hi
    simp only [awkK, List.mem_cons, List.not_mem_nil, or_false] at hi
    rcases hi with rfl | rfl <;> decide
  · intro k hk
    have : k = 0 := by simp [awkK] at hk; omega
    subst this
    decide
def awkM : Mc := newM awkK [7] [0]
theorem awk_begin : (beginM awkK awkM 0 false).2 = ⟨[], -1, -1, false, false, 0⟩ := by kernel_rfl
theorem awk_step : (stepM awkK (beginM awkK awkM 0 false).1 0 false).2 = ⟨[], 1, 0, true, false, 0⟩ := by kernel_rfl
theorem awk_core : (stepM awkK (beginM awkK awkM 0 false).1 0 false).1.cs 0 = ⟨[0, 7, 0, 0, 0, 0, 0, 0], 1⟩ := by kernel_rfl

theorem given_one {k : IntKind} {w : World} {b : Nat} {ty : TypeId} {x : Int} (h : Bk w b ty #[.int k x]) : Given k w (some ⟨b, 0, none⟩) [x] := fun _ => ⟨b, 0, rfl, h.lt, fun i hi => by
  have : i = 0 := by simp at hi; omega
  subst this
  exact h.cell 0⟩
theorem stays_below {w W W' : World} {n : Nat} {X X' : XP} (b : Below w.heap.size w W) (hO : ∀ i, X.Own n i → w.heap.size ≤ i) (s : XStays W n X W' X') : Below w.heap.size w W' ∧ ∀ i, X'.Own n i → w.heap.size ≤ i :=
  ⟨⟨s.1.os.trans b.os, s.1.tape.trans b.tape, s.1.output.trans b.output, Nat.le_trans b.size s.1.size, fun i hi => (s.1.block i (Nat.lt_of_lt_of_le hi b.size) (fun e => by have := hO i (XP.has_own e); omega)).trans (b.block i hi)⟩,
   fun i hi => by
    rcases s.2.1 i hi with e | e
    · exact hO i e
    · exact Nat.le_trans b.size e⟩

set_option maxHeartbeats 4000000 in
theorem lAwake10 (w : World) : Calls Try.prog 7 #[] w fun e w' => e = .returned (.bool true) ∧ Below w.heap.size w w' := by
  have q0 := ((((Bk.made w 55 (progC awkK.l).toArray).alloc (.cells #[.int .i64 1] 3)).alloc (.cells #[.int .u32 7] 49)).alloc (.cells #[.int .u32 0] 49))
  have q1 := ((Bk.made (w.alloc (.cells (progC awkK.l).toArray 55)) 3 #[.int .i64 1]).alloc (.cells #[.int .u32 7] 49)).alloc (.cells #[.int .u32 0] 49)
  have q2 := (Bk.made ((w.alloc (.cells (progC awkK.l).toArray 55)).alloc (.cells #[.int .i64 1] 3)) 49 #[.int .u32 7]).alloc (.cells #[.int .u32 0] 49)
  have q3 := Bk.made (((w.alloc (.cells (progC awkK.l).toArray 55)).alloc (.cells #[.int .i64 1] 3)).alloc (.cells #[.int .u32 7] 49)) 49 #[.int .u32 0]
  have q4 := Bk.made ((((w.alloc (.cells (progC awkK.l).toArray 55)).alloc (.cells #[.int .i64 1] 3)).alloc (.cells #[.int .u32 7] 49)).alloc (.cells #[.int .u32 0] 49)) 28 #[.slice (some ⟨w.heap.size, 0, none⟩) 2 2, .int .i64 0, .int .i64 0, .slice (some ⟨w.heap.size + 1, 0, none⟩) 1 1, .slice (some ⟨w.heap.size + 1 + 1, 0, none⟩) 1 1, .int .i64 0, .slice (some ⟨w.heap.size + 1 + 1 + 1, 0, none⟩) 1 1]
  simp only [World.size_alloc] at q1 q2 q3 q4
  have b0 : Below w.heap.size w ((((w.alloc (.cells (progC awkK.l).toArray 55)).alloc (.cells #[.int .i64 1] 3)).alloc (.cells #[.int .u32 7] 49)).alloc (.cells #[.int .u32 0] 49)) := ((((Below.refl _ _).alloc (Nat.le_refl _) _).alloc (by simp) _).alloc (by simp; omega) _).alloc (by simp; omega) _
  go_enter Try.func7, Try.ntmps7
  go_upto_region 2 with fail
  generalize hy : (((w.alloc (.cells #[.int .i64 20, .int .i64 1, .int .i64 0, .int .i64 0, .int .i64 0, .int .i64 0, .int .u32 1, .int .i64 0, .int .i64 13, .int .i64 0, .int .i64 0, .int .i64 0, .int .i64 0, .int .i64 0, .int .u32 1, .int .i64 0] 55)).alloc (.cells #[.int .i64 1] 3)).alloc (.cells #[.int .u32 7] 49)).alloc (.cells #[.int .u32 0] 49) = y
  have hy2 : (((w.alloc (.cells (progC awkK.l).toArray 55)).alloc (.cells #[.int .i64 1] 3)).alloc (.cells #[.int .u32 7] 49)).alloc (.cells #[.int .u32 0] 49) = y := hy
  rw [hy2] at q0 q1 q2 q3 q4 b0
  clear hy hy2
  have hz := (Below.refl y.heap.size y).alloc (Nat.le_refl _) (.cells #[.slice (some ⟨w.heap.size, 0, none⟩) 2 2, .int .i64 0, .int .i64 0, .slice (some ⟨w.heap.size + 1, 0, none⟩) 1 1, .slice (some ⟨w.heap.size + 1 + 1, 0, none⟩) 1 1, .int .i64 0, .slice (some ⟨w.heap.size + 1 + 1 + 1, 0, none⟩) 1 1] 28)
  have b1 := b0.trans (hz.mono b0.size)
  replace q0 := (hz.block _ (Bk.lt q0)).trans q0
  replace q1 := (hz.block _ (Bk.lt q1)).trans q1
  replace q2 := (hz.block _ (Bk.lt q2)).trans q2
  replace q3 := (hz.block _ (Bk.lt q3)).trans q3
  clear hz b0
  generalize y.alloc (.cells #[.slice (some ⟨w.heap.size, 0, none⟩) 2 2, .int .i64 0, .int .i64 0, .slice (some ⟨w.heap.size + 1, 0, none⟩) 1 1, .slice (some ⟨w.heap.size + 1 + 1, 0, none⟩) 1 1, .int .i64 0, .slice (some ⟨w.heap.size + 1 + 1 + 1, 0, none⟩) 1 1] 28) = y2 at *
  have hSli : Sli y2 (some ⟨w.heap.size, 0, none⟩) awkK.l := fun _ => ⟨w.heap.size, 0, rfl, Bk.lt q0, fun k i hk j hj => by
    rw [Nat.zero_add, Bk.cell q0, List.getElem?_toArray, progC_at hk hj]⟩
  have hSv : Sv y2 (.agg #[.slice (some ⟨w.heap.size, 0, none⟩) 2 2, .int .i64 0, .int .i64 0, .slice (some ⟨w.heap.size + 1, 0, none⟩) 1 1, .slice (some ⟨w.heap.size + 1 + 1, 0, none⟩) 1 1, .int .i64 0, .slice (some ⟨w.heap.size + 1 + 1 + 1, 0, none⟩) 1 1]) ⟨awkK.l, awkK.lo, awkK.un⟩ awkK.zs [7] [0] awkK.each :=
    ⟨_, 2, _, 1, _, 1, _, 1, rfl, ⟨_, 2, rfl, by decide, by simp [maxLen], by simp, hSli⟩, given_one q1, given_one q2, given_one q3, by simp [awkK, maxLen], by simp [maxLen], by simp [maxLen]⟩
  have hN : Calls Try.prog 8 #[.agg #[.slice (some ⟨w.heap.size, 0, none⟩) 2 2, .int .i64 0, .int .i64 0, .slice (some ⟨w.heap.size + 1, 0, none⟩) 1 1, .slice (some ⟨w.heap.size + 1 + 1, 0, none⟩) 1 1, .int .i64 0, .slice (some ⟨w.heap.size + 1 + 1 + 1, 0, none⟩) 1 1], .int .i64 1] y2 (NewX y2 awkK [7] [0]) := xNew awkK_ok hSv (by decide) (by intro x hx; simp at hx; omega) rfl (by intro x hx; simp at hx; omega)
  obtain ⟨f0, f1, f2, f3, f4, f5, f6⟩ : y2.cell? ⟨w.heap.size + 1 + 1 + 1 + 1, 0, none⟩ = some (.slice (some ⟨w.heap.size, 0, none⟩) 2 2) ∧ y2.cell? ⟨w.heap.size + 1 + 1 + 1 + 1, 1, none⟩ = some (.int .i64 0) ∧ y2.cell? ⟨w.heap.size + 1 + 1 + 1 + 1, 2, none⟩ = some (.int .i64 0) ∧ y2.cell? ⟨w.heap.size + 1 + 1 + 1 + 1, 3, none⟩ = some (.slice (some ⟨w.heap.size + 1, 0, none⟩) 1 1) ∧ y2.cell? ⟨w.heap.size + 1 + 1 + 1 + 1, 4, none⟩ = some (.slice (some ⟨w.heap.size + 1 + 1, 0, none⟩) 1 1) ∧ y2.cell? ⟨w.heap.size + 1 + 1 + 1 + 1, 5, none⟩ = some (.int .i64 0) ∧ y2.cell? ⟨w.heap.size + 1 + 1 + 1 + 1, 6, none⟩ = some (.slice (some ⟨w.heap.size + 1 + 1 + 1, 0, none⟩) 1 1) := ⟨q4.cell 0, q4.cell 1, q4.cell 2, q4.cell 3, q4.cell 4, q4.cell 5, q4.cell 6⟩
  clear q0 q1 q2 q3 hSli hSv
  clear q4
  go_wp2_with fail
  refine hN.mono ?_
  rintro e y3 ⟨X, rfl, hX, hy3, hO⟩
  have b2 := b1.trans (hy3.mono b1.size)
  replace hO : ∀ i, X.Own awkK.n i → w.heap.size ≤ i := fun i hi => Nat.le_trans b1.size (hO i hi)
  clear f0 f1 f2 f3 f4 f5 f6 hN hy3 b1
  have hB : Calls Try.prog 9 #[.pointer (some ⟨X.x, 0, none⟩), .int .i64 0, .bool false] y3 (Came y3 X awkK (beginM awkK awkM 0 false)) := xBegin hX 0 (by decide) false
  go_wp2_with fail
  refine hB.mono ?_
  rintro e y4 ⟨v1, M1, rfl, hl1, hX1, hs1⟩
  rw [awk_begin] at hl1 ⊢
  obtain ⟨a1, k1, e1, -⟩ := hl1.is
  subst e1
  obtain ⟨b3, hO1⟩ := stays_below b2 hO hs1
  unfold otV
  simp only [List.length_nil]
  clear hl1 hs1 hB hX b2 hO
  have hS : Calls Try.prog 11 #[.pointer (some ⟨X.x, 0, none⟩), .int .i64 0, .bool false] y4 (Came y4 { X with M := M1 } awkK (stepM awkK (beginM awkK awkM 0 false).1 0 false)) := xStep hX1 0 (by decide) false
  go_wp2_with fail
  refine hS.mono ?_
  rintro e y5 ⟨v2, M2, rfl, hl2, hX2, hs2⟩
  rw [awk_step] at hl2 ⊢
  obtain ⟨a2, k2, e2, -⟩ := hl2.is
  subst e2
  obtain ⟨b5, hO2⟩ := stays_below b3 hO1 hs2
  unfold otV
  simp only [List.length_nil]
  clear hl2 hs2 hS hX1 b3 hO1 hO2
  go_upto_region 6 with fail
  have hz := ((Below.refl y5.heap.size y5).alloc (Nat.le_refl _) (.cells #[.slice a1 0 k1, .int .i64 (-1), .int .i64 (-1), .bool false, .bool false, .int .i64 0] 46)).alloc (by simp) (.cells #[.slice a2 0 k2, .int .i64 1, .int .i64 0, .bool true, .bool false, .int .i64 0] 46)
  have o1 := (Bk.made y5 46 #[.slice a1 0 k1, .int .i64 (-1), .int .i64 (-1), .bool false, .bool false, .int .i64 0]).alloc (.cells #[.slice a2 0 k2, .int .i64 1, .int .i64 0, .bool true, .bool false, .int .i64 0] 46)
  have o2 := Bk.made (y5.alloc (.cells #[.slice a1 0 k1, .int .i64 (-1), .int .i64 (-1), .bool false, .bool false, .int .i64 0] 46)) 46 #[.slice a2 0 k2, .int .i64 1, .int .i64 0, .bool true, .bool false, .int .i64 0]
  rw [World.size_alloc] at o2
  have hX3 := hX2.below hz
  have b6 := b5.trans (hz.mono b5.size)
  clear hz hX2 b5
  generalize y5.heap.size = n5 at *
  generalize (y5.alloc (.cells #[.slice a1 0 k1, .int .i64 (-1), .int .i64 (-1), .bool false, .bool false, .int .i64 0] 46)).alloc (.cells #[.slice a2 0 k2, .int .i64 1, .int .i64 0, .bool true, .bool false, .int .i64 0] 46) = y6 at *
  have d1 : y6.cell? ⟨n5, 1, none⟩ = some (.int .i64 (-1)) := o1.cell 1
  have d2 : y6.cell? ⟨n5, 2, none⟩ = some (.int .i64 (-1)) := o1.cell 2
  have d3 : y6.cell? ⟨n5 + 1, 1, none⟩ = some (.int .i64 1) := o2.cell 1
  have d4 : y6.cell? ⟨n5 + 1, 2, none⟩ = some (.int .i64 0) := o2.cell 2
  have d5 : y6.cell? ⟨n5 + 1, 3, none⟩ = some (.bool true) := o2.cell 3
  have hC : Calls Try.prog 12 #[.pointer (some ⟨X.x, 0, none⟩), .int .i64 0] y6 fun e w' => e = .returned (cv ((stepM awkK (beginM awkK awkM 0 false).1 0 false).1.cs 0).xs ((stepM awkK (beginM awkK awkM 0 false).1 0 false).1.cs 0).pc) ∧ Below y6.heap.size y6 w' := xCore hX3 0 (by decide)
  rw [awk_core] at hC
  unfold cv at hC
  simp only [corC, List.map_cons, List.map_nil, List.cons_append, List.nil_append] at hC
  clear hX3 o1 o2
  go_wp2_with fail
  refine hC.mono ?_
  rintro e y7 ⟨rfl, hy7⟩
  have b7 := b6.trans (hy7.mono b6.size)
  clear hC hy7 b6
  have hF : ∀ W, Sem.run Try.prog (Instr.field 52 (.agg #[.int .u32 0, .int .u32 7, .int .u32 0, .int .u32 0, .int .u32 0, .int .u32 0, .int .u32 0, .int .u32 0, .int .i64 1]) 0) W = .ok (.agg #[.int .u32 0, .int .u32 7, .int .u32 0, .int .u32 0, .int .u32 0, .int .u32 0, .int .u32 0, .int .u32 0]) W := fun _ => rfl
  have hI : ∀ W, Sem.run Try.prog (Instr.index 50 (.agg #[.int .u32 0, .int .u32 7, .int .u32 0, .int .u32 0, .int .u32 0, .int .u32 0, .int .u32 0, .int .u32 0]) (.int .i64 1)) W = .ok (.int .u32 7) W := fun _ => rfl
  go_wp2
  go_ret
  exact ⟨rfl, b7⟩
end Go.Proofs.Ytpinpipjlongaaa
