/- For any two locks, of any numbers of threads and any numbers to begin with: TicketProgram returns true: the program doesn't hang on how many threads there are, or on anything else; no condition. A tied card: the listed variables of the library are tied to the program's text. -/
import Derived.Test.YthdgehcghklflaaDoorKAsmF
import Derived.ChangeMaps5
namespace Go.Proofs.YthdgehcghklflaaDoor.ticketProgram
set_option maxRecDepth 100000
open Go.Joins Go.ChangeShapes Go.WideShapes Go.ChangeAt Go.RowKit Go.Deep
set_option linter.unusedVariables false

set_option maxHeartbeats 4000000 in
theorem walk (n m st o : Int) (f1 : 0 ≤ st ∧ st < 4294967296) (f2 : 0 ≤ o ∧ o < 4294967296) (W : World) (L : Lb W) :
    Calls Tryd.prog 3 #[.agg #[.int .i64 n, .int .i64 m, .int .u32 st, .int .u32 o]] W fun e w' => e = .returned (.bool true) ∧ Below W.heap.size W w' := by
  have HLB : Hid (∀ V, Below W.heap.size W V → Lb V) := Lib.hid (fun V hV => L.below hV)
  have HAw : Hid (∀ V, Below W.heap.size W V → Calls Tryd.prog 5 #[] V fun e w' => e = .returned (.bool true) ∧ Below V.heap.size V w') := Lib.hid (fun V hV => lAwake14 V (HLB.out V hV))
  obtain ⟨u0, u1⟩ := f1
  obtain ⟨v0, v1⟩ := f2
  clear L
  have bB : Below W.heap.size W (W.alloc (.cells #[.int .i64 n, .int .i64 m, .int .u32 st, .int .u32 o] 24)) := (Below.refl _ _).alloc (Nat.le_refl _) _
  have qB := Bk.made W 24 #[.int .i64 n, .int .i64 m, .int .u32 st, .int .u32 o]
  by_cases hn : 1 ≤ n ∧ n ≤ 64
  · obtain ⟨N, rfl⟩ : ∃ N : Nat, n = N := ⟨n.toNat, by omega⟩
    have HC1 : Hid (∀ V, Below W.heap.size W V → Calls Tryd.prog 4 #[.int .i64 N, .int .u32 st] V fun e w' => ∃ v, e = .returned (.tuple #[v, .int .i64 0]) ∧ Sv w' v tkP [1, 1] [st, st] (tkR N) 0 ∧ Below V.heap.size V w') := Lib.hid (fun V hV => cSpec N st V (HLB.out V hV) (by omega) (by omega) u0 u1)
    by_cases hm : 1 ≤ m ∧ m ≤ 64
    · obtain ⟨M, rfl⟩ : ∃ M : Nat, m = M := ⟨m.toNat, by omega⟩
      have HC2 : Hid (∀ V, Below W.heap.size W V → Calls Tryd.prog 4 #[.int .i64 M, .int .u32 o] V fun e w' => ∃ v, e = .returned (.tuple #[v, .int .i64 0]) ∧ Sv w' v tkP [1, 1] [o, o] (tkR M) 0 ∧ Below V.heap.size V w') := Lib.hid (fun V hV => cSpec M o V (HLB.out V hV) (by omega) (by omega) v0 v1)
      have HRf : Hid (∀ V v xs k, Sv V v tkP [1, 1] xs (tkR k) 0 → Calls Tryd.prog 7 #[v] V fun e w' => ∃ v', e = .returned v' ∧ SpV w' v' tkP [1, 1] xs (tkR k) 0 ∧ Below V.heap.size V w') := Lib.hid (fun V v xs k hv => (lRef10 hv (by decide)).mono fun e w' ⟨v', h1, h2, h3⟩ => ⟨v', h1, h2.spv, h3⟩)
      have HSm : Hid (∀ V v u, SpV V v tkP [] [] [] 0 → SpV V u tkP [] [] [] 0 → Calls Tryd.prog 6 #[v, u] V fun e w' => e = .returned (.bool true) ∧ Below V.heap.size V w') := Lib.hid (fun V v u h1 h2 => same_spec V v u tkP [] [] [] 0 h1 h2 (by decide))
      have hcl : tkP.l.length ≤ maxLen := by unfold maxLen; decide
      clear hn hm
      generalize tkP = c at *
      go_enter Tryd.func3, Tryd.ntmps3
      go_upto_region 1 with fail
      generalize W.alloc (.cells #[.int .i64 N, .int .i64 M, .int .u32 st, .int .u32 o] 24) = z0 at *
      obtain ⟨y0, y1, y2, y3⟩ : z0.cell? ⟨W.heap.size, 0, none⟩ = some (.int .i64 N) ∧ z0.cell? ⟨W.heap.size, 1, none⟩ = some (.int .i64 M) ∧ z0.cell? ⟨W.heap.size, 2, none⟩ = some (.int .u32 st) ∧ z0.cell? ⟨W.heap.size, 3, none⟩ = some (.int .u32 o) := ⟨qB.cell 0, qB.cell 1, qB.cell 2, qB.cell 3⟩
      clear qB
      go_quiet (fail)
      clear y0 y1 y2 y3
      replace bB := bB.trans ((below_drawnV z0 nq).mono bB.size)
      generalize z0.drewN nq = w0 at *
      go_wp2_with fail
      refine (HC1.out w0 bB).mono ?_
      rintro e y ⟨v, rfl, hsv, hy⟩
      have HSV1 := Lib.hid hsv
      obtain ⟨aL, cL, aS, cS, aI, cI, aR, cR, rfl, -⟩ := hsv
      rw [show ([1, 1] : List Int).length = 2 from rfl, show ([st, st] : List Int).length = 2 from rfl, show (tkR N).length = N from List.length_replicate] at *
      have hya : Below y.heap.size y (y.alloc (.cells #[.slice aL c.l.length cL, .int .i64 c.lo, .int .i64 c.un, .slice aS 2 cS, .slice aI 2 cI, .int .i64 0, .slice aR N cR] 31)) := (Below.refl _ _).alloc (Nat.le_refl _) _
      have q1 := Bk.made y 31 #[.slice aL c.l.length cL, .int .i64 c.lo, .int .i64 c.un, .slice aS 2 cS, .slice aI 2 cI, .int .i64 0, .slice aR N cR]
      have b1 := (bB.trans (hy.mono bB.size)).trans (hya.mono (bB.trans (hy.mono bB.size)).size)
      have HSV2 := Lib.hid (HSV1.out.below hya)
      obtain ⟨yb, hyb⟩ : ∃ yb, y.heap.size = yb := ⟨_, rfl⟩
      rw [hyb] at q1
      clear HC1 HSV1 hy bB
      go_upto_region 3 with fail
      try rw [hyb]
      generalize y.alloc (.cells #[.slice aL c.l.length cL, .int .i64 c.lo, .int .i64 c.un, .slice aS 2 cS, .slice aI 2 cI, .int .i64 0, .slice aR N cR] 31) = z at *
      clear hyb hya
      go_wp2_with fail
      refine (HC2.out z b1).mono ?_
      rintro e z1 ⟨v, rfl, hsv, hz1⟩
      have HSW1 := Lib.hid hsv
      obtain ⟨bL, dL, bS, dS, bI, dI, bR, dR, rfl, -⟩ := hsv
      rw [show ([1, 1] : List Int).length = 2 from rfl, show ([o, o] : List Int).length = 2 from rfl, show (tkR M).length = M from List.length_replicate] at *
      have hza : Below z1.heap.size z1 (z1.alloc (.cells #[.slice bL c.l.length dL, .int .i64 c.lo, .int .i64 c.un, .slice bS 2 dS, .slice bI 2 dI, .int .i64 0, .slice bR M dR] 31)) := (Below.refl _ _).alloc (Nat.le_refl _) _
      have q2 := Bk.made z1 31 #[.slice bL c.l.length dL, .int .i64 c.lo, .int .i64 c.un, .slice bS 2 dS, .slice bI 2 dI, .int .i64 0, .slice bR M dR]
      have hzz := hz1.trans (hza.mono hz1.size)
      have b2 := b1.trans (hzz.mono b1.size)
      have hq1 := (hzz.block _ (Bk.lt q1)).trans q1
      have HSV3 := Lib.hid (HSV2.out.below hzz)
      have HSW2 := Lib.hid (HSW1.out.below hza)
      obtain ⟨zb, hzb⟩ : ∃ zb, z1.heap.size = zb := ⟨_, rfl⟩
      rw [hzb] at q2
      clear HC2 HSV2 HSW1 hz1 hzz b1 q1
      go_upto_region 6 with fail
      try rw [hzb]
      generalize z1.alloc (.cells #[.slice bL c.l.length dL, .int .i64 c.lo, .int .i64 c.un, .slice bS 2 dS, .slice bI 2 dI, .int .i64 0, .slice bR M dR] 31) = x at *
      clear hza hzb
      have HQ : Hid (∀ V, Below x.heap.size x V → Bk V yb 31 #[.slice aL c.l.length cL, .int .i64 c.lo, .int .i64 c.un, .slice aS 2 cS, .slice aI 2 cI, .int .i64 0, .slice aR N cR] ∧ Bk V zb 31 #[.slice bL c.l.length dL, .int .i64 c.lo, .int .i64 c.un, .slice bS 2 dS, .slice bI 2 dI, .int .i64 0, .slice bR M dR] ∧ Below W.heap.size W V) := Lib.hid fun V hV => ⟨(hV.block _ (Bk.lt hq1)).trans hq1, (hV.block _ (Bk.lt q2)).trans q2, b2.trans (hV.mono b2.size)⟩
      clear hq1 q2 b2
      refine wp_region_flow [] (fun _ V => Below x.heap.size x V) (fun _ _ _ => False) (fun vs => { tmps := #[.agg #[.int .i64 (N : Int), .int .i64 (M : Int), .int .u32 st, .int .u32 o], .pointer (some ⟨W.heap.size, 0, none⟩), vs 12, .int .i64 (N : Int), .int .i64 (M : Int), .int .u32 st, .int .u32 o, .pointer (some ⟨yb, 0, none⟩), .int .i64 0, .pointer (some ⟨zb, 0, none⟩), .int .i64 0, .pointer (some ⟨W.heap.size, 0, none⟩), .int .i64 (N : Int), .pointer (some ⟨W.heap.size, 1, none⟩), .int .i64 (M : Int), .pointer (some ⟨W.heap.size, 2, none⟩), .int .u32 st, .pointer (some ⟨W.heap.size, 3, none⟩), .int .u32 o, .tuple #[.agg #[.slice aL c.l.length cL, .int .i64 c.lo, .int .i64 c.un, .slice aS 2 cS, .slice aI 2 cI, .int .i64 0, .slice aR N cR], .int .i64 0], .int .i64 (N : Int), .int .u32 st, .tuple #[.agg #[.slice aL c.l.length cL, .int .i64 c.lo, .int .i64 c.un, .slice aS 2 cS, .slice aI 2 cI, .int .i64 0, .slice aR N cR], .int .i64 0], .agg #[.slice aL c.l.length cL, .int .i64 c.lo, .int .i64 c.un, .slice aS 2 cS, .slice aI 2 cI, .int .i64 0, .slice aR N cR], .int .i64 0, .tuple #[.agg #[.slice bL c.l.length dL, .int .i64 c.lo, .int .i64 c.un, .slice bS 2 dS, .slice bI 2 dI, .int .i64 0, .slice bR M dR], .int .i64 0], .int .i64 (M : Int), .int .u32 o, .tuple #[.agg #[.slice bL c.l.length dL, .int .i64 c.lo, .int .i64 c.un, .slice bS 2 dS, .slice bI 2 dI, .int .i64 0, .slice bR M dR], .int .i64 0], .agg #[.slice bL c.l.length dL, .int .i64 c.lo, .int .i64 c.un, .slice bS 2 dS, .slice bI 2 dI, .int .i64 0, .slice bR M dR], .int .i64 0, .int .i64 0, .bool false, .bool false, .int .i64 0, .bool false, .bool false, undef, vs 0, vs 1, vs 2, vs 3, vs 4, vs 5, vs 6, vs 7, vs 8, vs 9, vs 10, vs 11], defers := [] }) (mixT [(1, (fun v V => SpV V v c [1, 1] [st, st] (tkR N) 0)), (2, (CdV c)), (3, (fun v V => SpV V v c [] [] [] 0)), (5, (fun v V => SpV V v c [1, 1] [o, o] (tkR M) 0)), (6, (CdV c)), (7, (fun v V => SpV V v c [] [] [] 0))] [.agg #[.slice aL c.l.length cL, .int .i64 c.lo, .int .i64 c.un, .slice aS 2 cS, .slice aI 2 cI, .int .i64 0, .slice aR N cR], undef, undef, undef, .agg #[.slice bL c.l.length dL, .int .i64 c.lo, .int .i64 c.un, .slice bS 2 dS, .slice bI 2 dI, .int .i64 0, .slice bR M dR], undef, undef, undef, .bool true, .bool true, .bool true, .bool true, .bool true]) ?ghm ?ghr ?ghc ?ghnd ?ghlit ?gh0 ?ghW ?ghF ?ghS ?gops ?gdone
      case ghm => kernel_rfl
      case ghr => kernel_rfl
      case ghc => kernel_rfl
      case ghnd => decide
      case ghlit => intro vs; rfl
      case gh0 => exact Below.refl _ _
      case ghW => exact fun kk V V2 h hb => h.trans (hb.mono h.size)
      case ghF => exact mixT_stable (by
        intro p0 hp
        simp only [List.mem_cons, List.not_mem_nil, or_false] at hp
        rcases hp with rfl | rfl | rfl | rfl | rfl | rfl
        · exact fun v V V2 h hb => SpV.below h hb
        · exact fun v V V2 h hb => CdV.below h hb
        · exact fun v V V2 h hb => SpV.below h hb
        · exact fun v V V2 h hb => SpV.below h hb
        · exact fun v V V2 h hb => CdV.below h hb
        · exact fun v V V2 h hb => SpV.below h hb)
      case ghS => exact fun kk V V2 _ hs i v h => hs.elim
      case gops =>
        refine ⟨?_, ?_, ?_, ?_, ?_, ?_, ?_, ?_, ?_, ?_, ?_, ?_, ?_, trivial⟩
        · intro vs V kk h1 h2 hW hd
          obtain rfl : kk = 0 := Nat.le_zero.1 h2
          refine leaves_free rfl ?_
          have hq := (HQ.out V hW).1
          obtain ⟨y0, y1, y2, y3, y4, y5, y6⟩ : V.cell? ⟨yb, 0, none⟩ = some (.slice aL c.l.length cL) ∧ V.cell? ⟨yb, 1, none⟩ = some (.int .i64 c.lo) ∧ V.cell? ⟨yb, 2, none⟩ = some (.int .i64 c.un) ∧ V.cell? ⟨yb, 3, none⟩ = some (.slice aS 2 cS) ∧ V.cell? ⟨yb, 4, none⟩ = some (.slice aI 2 cI) ∧ V.cell? ⟨yb, 5, none⟩ = some (.int .i64 0) ∧ V.cell? ⟨yb, 6, none⟩ = some (.slice aR N cR) := ⟨hq.cell 0, hq.cell 1, hq.cell 2, hq.cell 3, hq.cell 4, hq.cell 5, hq.cell 6⟩
          clear hq
          clear hd
          go_simp
          exact ⟨rfl, Below.refl _ _⟩
        · intro vs V kk h1 h2 hW hd
          obtain rfl : kk = 0 := Nat.le_zero.1 h2
          refine leaves_free rfl ?_
          have e0 : vs 0 = .agg #[.slice aL c.l.length cL, .int .i64 c.lo, .int .i64 c.un, .slice aS 2 cS, .slice aI 2 cI, .int .i64 0, .slice aR N cR] := hd 0 (by decide)
          have HS := Lib.hid (HRf.out V _ _ _ (HSV3.out.below hW))
          clear hd
          go_simp
          refine HS.out.mono ?_
          rintro e zz ⟨v', rfl, h5, h6⟩
          exact ⟨_, rfl, h5, h6⟩
        · intro vs V kk h1 h2 hW hd
          obtain rfl : kk = 0 := Nat.le_zero.1 h2
          refine leaves_free rfl ?_
          obtain ⟨gL, hL, gS, hS, gI, hI, gR, hR, e1, gp, -⟩ : SpV V (vs 1) c [1, 1] [st, st] (tkR N) 0 := hd 1 (by decide)
          clear hd
          go_simp
          exact ⟨⟨gL, hL, rfl, gp⟩, Below.refl _ _⟩
        · intro vs V kk h1 h2 hW hd
          obtain rfl : kk = 0 := Nat.le_zero.1 h2
          refine leaves_free rfl ?_
          obtain ⟨gL, hL, e2, gp⟩ : CdV c (vs 2) V := hd 2 (by decide)
          rw [e2] at gp
          clear hd
          go_simp
          exact ⟨spv_code gp, Below.refl _ _⟩
        · intro vs V kk h1 h2 hW hd
          obtain rfl : kk = 0 := Nat.le_zero.1 h2
          refine leaves_free rfl ?_
          have hq := (HQ.out V hW).2.1
          obtain ⟨y0, y1, y2, y3, y4, y5, y6⟩ : V.cell? ⟨zb, 0, none⟩ = some (.slice bL c.l.length dL) ∧ V.cell? ⟨zb, 1, none⟩ = some (.int .i64 c.lo) ∧ V.cell? ⟨zb, 2, none⟩ = some (.int .i64 c.un) ∧ V.cell? ⟨zb, 3, none⟩ = some (.slice bS 2 dS) ∧ V.cell? ⟨zb, 4, none⟩ = some (.slice bI 2 dI) ∧ V.cell? ⟨zb, 5, none⟩ = some (.int .i64 0) ∧ V.cell? ⟨zb, 6, none⟩ = some (.slice bR M dR) := ⟨hq.cell 0, hq.cell 1, hq.cell 2, hq.cell 3, hq.cell 4, hq.cell 5, hq.cell 6⟩
          clear hq
          clear hd
          go_simp
          exact ⟨rfl, Below.refl _ _⟩
        · intro vs V kk h1 h2 hW hd
          obtain rfl : kk = 0 := Nat.le_zero.1 h2
          refine leaves_free rfl ?_
          have e4 : vs 4 = .agg #[.slice bL c.l.length dL, .int .i64 c.lo, .int .i64 c.un, .slice bS 2 dS, .slice bI 2 dI, .int .i64 0, .slice bR M dR] := hd 4 (by decide)
          have HS := Lib.hid (HRf.out V _ _ _ (HSW2.out.below hW))
          clear hd
          go_simp
          refine HS.out.mono ?_
          rintro e zz ⟨v', rfl, h5, h6⟩
          exact ⟨_, rfl, h5, h6⟩
        · intro vs V kk h1 h2 hW hd
          obtain rfl : kk = 0 := Nat.le_zero.1 h2
          refine leaves_free rfl ?_
          obtain ⟨gL, hL, gS, hS, gI, hI, gR, hR, e5, gp, -⟩ : SpV V (vs 5) c [1, 1] [o, o] (tkR M) 0 := hd 5 (by decide)
          clear hd
          go_simp
          exact ⟨⟨gL, hL, rfl, gp⟩, Below.refl _ _⟩
        · intro vs V kk h1 h2 hW hd
          obtain rfl : kk = 0 := Nat.le_zero.1 h2
          refine leaves_free rfl ?_
          obtain ⟨gL, hL, e6, gp⟩ : CdV c (vs 6) V := hd 6 (by decide)
          rw [e6] at gp
          clear hd
          go_simp
          exact ⟨spv_code gp, Below.refl _ _⟩
        · intro vs V kk h1 h2 hW hd
          obtain rfl : kk = 0 := Nat.le_zero.1 h2
          refine leaves_free rfl ?_
          have g3 : SpV V (vs 3) c [] [] [] 0 := hd 3 (by decide)
          have g7 : SpV V (vs 7) c [] [] [] 0 := hd 7 (by decide)
          have HS := Lib.hid (HSm.out V _ _ g3 g7)
          clear g3 g7
          clear hd
          go_simp
          refine HS.out.mono ?_
          rintro e zz ⟨rfl, h6⟩
          exact ⟨_, rfl, rfl, h6⟩
        · intro vs V kk h1 h2 hW hd
          obtain rfl : kk = 0 := Nat.le_zero.1 h2
          refine leaves_free rfl ?_
          have e8 : vs 8 = .bool true := hd 8 (by decide)
          clear hd
          go_simp
          exact ⟨rfl, Below.refl _ _⟩
        · intro vs V kk h1 h2 hW hd
          obtain rfl : kk = 0 := Nat.le_zero.1 h2
          have eg : vs 9 = .bool true := hd 9 (by decide)
          refine leaves_guard rfl (by show (match some (vs 9) with | some (.bool b) => some b | _ => none) = some true; rw [eg]) ?_
          clear eg
          have HA9 := Lib.hid (HAw.out V (HQ.out V hW).2.2)
          clear hd
          go_simp
          refine HA9.out.mono ?_
          rintro e zz ⟨rfl, h6⟩
          exact ⟨_, rfl, rfl, h6⟩
        · intro vs V kk h1 h2 hW hd
          obtain rfl : kk = 0 := Nat.le_zero.1 h2
          refine leaves_free rfl ?_
          have e9 : vs 9 = .bool true := hd 9 (by decide)
          have e10 : vs 10 = .bool true := hd 10 (by decide)
          clear hd
          go_simp
          exact ⟨rfl, Below.refl _ _⟩
        · intro vs V kk h1 h2 hW hd
          obtain rfl : kk = 0 := Nat.le_zero.1 h2
          refine leaves_free rfl ?_
          have e11 : vs 11 = .bool true := hd 11 (by decide)
          clear hd
          go_simp
          exact ⟨rfl, Below.refl _ _⟩
      case gdone =>
        intro vs V hW hf
        have f0 : vs 0 = .agg #[.slice aL c.l.length cL, .int .i64 c.lo, .int .i64 c.un, .slice aS 2 cS, .slice aI 2 cI, .int .i64 0, .slice aR N cR] := hf 0 (by decide)
        have f4 : vs 4 = .agg #[.slice bL c.l.length dL, .int .i64 c.lo, .int .i64 c.un, .slice bS 2 dS, .slice bI 2 dI, .int .i64 0, .slice bR M dR] := hf 4 (by decide)
        have f8 : vs 8 = .bool true := hf 8 (by decide)
        have f9 : vs 9 = .bool true := hf 9 (by decide)
        have f10 : vs 10 = .bool true := hf 10 (by decide)
        have f11 : vs 11 = .bool true := hf 11 (by decide)
        have f12 : vs 12 = .bool true := hf 12 (by decide)
        simp only [f0, f4, f8, f9, f10, f11, f12]
        clear f0 f4 f8 f9 f10 f11 f12
        generalize vs 1 = r1 at *
        generalize vs 2 = r2 at *
        generalize vs 3 = r3 at *
        generalize vs 5 = r5 at *
        generalize vs 6 = r6 at *
        generalize vs 7 = r7 at *
        have hfin := (HQ.out V hW).2.2
        clear hf HQ
        go_wp2
        go_ret
        exact ⟨rfl, hfin⟩
    · have HC2 : Hid (∀ V, Calls Tryd.prog 4 #[.int .i64 m, .int .u32 o] V fun e w' => e = .returned (.tuple #[spZ, .int .i64 5]) ∧ Below V.heap.size V w') := Lib.hid (fun V => cSpecNo m o V hm)
      unfold spZ at HC2
      clear hn hm
      generalize tkP = c at *
      go_enter Tryd.func3, Tryd.ntmps3
      go_upto_region 1 with fail
      generalize W.alloc (.cells #[.int .i64 N, .int .i64 m, .int .u32 st, .int .u32 o] 24) = z0 at *
      obtain ⟨y0, y1, y2, y3⟩ : z0.cell? ⟨W.heap.size, 0, none⟩ = some (.int .i64 N) ∧ z0.cell? ⟨W.heap.size, 1, none⟩ = some (.int .i64 m) ∧ z0.cell? ⟨W.heap.size, 2, none⟩ = some (.int .u32 st) ∧ z0.cell? ⟨W.heap.size, 3, none⟩ = some (.int .u32 o) := ⟨qB.cell 0, qB.cell 1, qB.cell 2, qB.cell 3⟩
      clear qB
      go_quiet (fail)
      clear y0 y1 y2 y3
      replace bB := bB.trans ((below_drawnV z0 nq).mono bB.size)
      generalize z0.drewN nq = w0 at *
      go_wp2_with fail
      refine (HC1.out w0 bB).mono ?_
      rintro e y ⟨v, rfl, hsv, hy⟩
      obtain ⟨aL, cL, aS, cS, aI, cI, aR, cR, rfl, -⟩ := hsv
      rw [show ([1, 1] : List Int).length = 2 from rfl, show ([st, st] : List Int).length = 2 from rfl, show (tkR N).length = N from List.length_replicate] at *
      have b1 := (bB.trans (hy.mono bB.size)).alloc (o := .cells #[.slice aL c.l.length cL, .int .i64 c.lo, .int .i64 c.un, .slice aS 2 cS, .slice aI 2 cI, .int .i64 0, .slice aR N cR] 31) (bB.trans (hy.mono bB.size)).size
      clear HC1 hy bB
      go_wp2_with fail
      refine (HC2.out _).mono ?_
      rintro e z ⟨rfl, hz⟩
      have b2 := (b1.trans (hz.mono b1.size)).alloc (o := .cells #[.slice none 0 0, .int .i64 0, .int .i64 0, .slice none 0 0, .slice none 0 0, .int .i64 0, .slice none 0 0] 31) (b1.trans (hz.mono b1.size)).size
      clear HC2 hz b1
      go_wp2_with fail
      refine (HAw.out _ (b2)).mono ?_
      rintro e w9 ⟨rfl, hw9⟩
      have hf := (b2).trans (hw9.mono (b2).size)
      go_wp2
      go_ret
      exact ⟨rfl, hf⟩
  · have HC1 : Hid (∀ V, Calls Tryd.prog 4 #[.int .i64 n, .int .u32 st] V fun e w' => e = .returned (.tuple #[spZ, .int .i64 5]) ∧ Below V.heap.size V w') := Lib.hid (fun V => cSpecNo n st V hn)
    have HC2 : Hid (∀ V, Below W.heap.size W V → Calls Tryd.prog 4 #[.int .i64 m, .int .u32 o] V fun e w' => ∃ (x : Int) (p0 : Option Addr) (p1 p2 : Nat) (p3 p4 : Int) (p5 : Option Addr) (p6 p7 : Nat) (p8 : Option Addr) (p9 q0 : Nat) (q1 : Int) (q2 : Option Addr) (q3 q4 : Nat), e = .returned (.tuple #[.agg #[.slice p0 p1 p2, .int .i64 p3, .int .i64 p4, .slice p5 p6 p7, .slice p8 p9 q0, .int .i64 q1, .slice q2 q3 q4], .int .i64 x]) ∧ Below V.heap.size V w') := Lib.hid (fun V hV => by
      by_cases hm : 1 ≤ m ∧ m ≤ 64
      · obtain ⟨M, rfl⟩ : ∃ M : Nat, m = M := ⟨m.toNat, by omega⟩
        refine (cSpec M o V (HLB.out V hV) (by omega) (by omega) v0 v1).mono ?_
        rintro e w' ⟨v, rfl, ⟨aL, cL, aS, cS, aI, cI, aR, cR, rfl, -⟩, h⟩
        exact ⟨_, _, _, _, _, _, _, _, _, _, _, _, _, _, _, _, rfl, h⟩
      · refine (cSpecNo m o V hm).mono ?_
        rintro e w' ⟨rfl, h⟩
        exact ⟨_, _, _, _, _, _, _, _, _, _, _, _, _, _, _, _, rfl, h⟩)
    unfold spZ at HC1
    clear hn
    go_enter Tryd.func3, Tryd.ntmps3
    go_upto_region 1 with fail
    generalize W.alloc (.cells #[.int .i64 n, .int .i64 m, .int .u32 st, .int .u32 o] 24) = z0 at *
    obtain ⟨y0, y1, y2, y3⟩ : z0.cell? ⟨W.heap.size, 0, none⟩ = some (.int .i64 n) ∧ z0.cell? ⟨W.heap.size, 1, none⟩ = some (.int .i64 m) ∧ z0.cell? ⟨W.heap.size, 2, none⟩ = some (.int .u32 st) ∧ z0.cell? ⟨W.heap.size, 3, none⟩ = some (.int .u32 o) := ⟨qB.cell 0, qB.cell 1, qB.cell 2, qB.cell 3⟩
    clear qB
    go_quiet (fail)
    clear y0 y1 y2 y3
    replace bB := bB.trans ((below_drawnV z0 nq).mono bB.size)
    generalize z0.drewN nq = w0 at *
    go_wp2_with fail
    refine (HC1.out w0).mono ?_
    rintro e y ⟨rfl, hy⟩
    have b1 := (bB.trans (hy.mono bB.size)).alloc (o := .cells #[.slice none 0 0, .int .i64 0, .int .i64 0, .slice none 0 0, .slice none 0 0, .int .i64 0, .slice none 0 0] 31) (bB.trans (hy.mono bB.size)).size
    clear HC1 hy bB
    go_wp2_with fail
    refine (HC2.out _ b1).mono ?_
    rintro e z ⟨x, p0, p1, p2, p3, p4, p5, p6, p7, p8, p9, q0, q1, q2, q3, q4, rfl, hz⟩
    have b2 := (b1.trans (hz.mono b1.size)).alloc (o := .cells #[.slice p0 p1 p2, .int .i64 p3, .int .i64 p4, .slice p5 p6 p7, .slice p8 p9 q0, .int .i64 q1, .slice q2 q3 q4] 31) (b1.trans (hz.mono b1.size)).size
    clear HC2 hz b1
    go_wp2_with fail
    refine (HAw.out _ (b2)).mono ?_
    rintro e w9 ⟨rfl, hw9⟩
    have hf := (b2).trans (hw9.mono (b2).size)
    go_wp2
    go_ret
    exact ⟨rfl, hf⟩

set_option maxRecDepth 100000 in
theorem lifted (os : Os) (started : os.Started) (H : Type) (enc : TypeId × Value → H) :
    ReturnsInHanded {} Tryd.checked os 3 .any (fun w args => (Rows.ticketProgramSpec.pre enc Tryd.prog Tryd.f3 [] false w args ∧ laidMetH Tryd.prog Rows.ticketProgramRow.laid w) ∧ sizedMet enc Tryd.prog Tryd.f3 (OpenSpec.ofChange Rows.ticketProgramSpec) false w args)
      (Rows.ticketProgramSpec.post enc Tryd.prog Tryd.f3 false true false false) := by
  refine returns_laid (C := Tryd.checked) (X := fun w _ => laidMetH Tryd.prog Rows.ticketProgramRow.laid w) (fun _ _ _ hh h => h.of_heap hh) ownA started (by kernel_rfl) Tryd.func3
    (ChangeSpec.witness_shaped (enc := enc) (C := Tryd.checked) (os := os) (X := fun w _ => laidMetH Tryd.prog Rows.ticketProgramRow.laid w) false (World.laidAll Tryd.prog os Rows.ticketProgramRow.laid) #[.agg #[.int .i64 0, .int .i64 0, .int .u32 0, .int .u32 0]] 8 (World.laidAll_os _ _ _)
      (World.shaped_of_ZipB (by kernel_rfl) (by kernel_rfl)) (by kernel_rfl) (by kernel_rfl) (by kernel_rfl)
      (by rw [MakeChecks.laidMetH_plain _ _ _ (by kernel_rfl)]; exact laidMet_laidAll _ (by kernel_rfl) (by kernel_rfl))) ?_
  intro W base args ds gs before hval0 hW hL hsh
  have hval : ∀ (j : Nat) t v, Tryd.f3.params[j]? = some t → args[j]? = some v → Value.okWide Tryd.prog W .any base t v := hval0
  have hW' := hW
  obtain ⟨p, q, hA0, hV, rfl, _, _⟩ := hW
  have hA : DataW.TrodAll enc Tryd.prog W 0 (fun _ => true) true Tryd.f3.params.toList args.toList ds p := hA0
  rw [Tryd.params3] at hA hval
  obtain ⟨v0, vs0, d0, ds0, p0, q0, hargs, rfl, rfl, h0, r0⟩ := trodAll_cons hA
  obtain ⟨rfl, rfl, rfl⟩ := trodAll_nil r0
  obtain rfl : args = #[v0] := by cases args; simp_all
  obtain ⟨rfl, rfl⟩ := trodVars_none hV
  have k0 := h0
  have lt0 : ∀ x ∈ p0, x.block < W.heap.size := by obtain ⟨m, hm⟩ := k0; exact DataW.trod_lt m _ _ _ hm
  obtain ⟨n0, m0, s0, o0, rfl, u0, g0⟩ := open_two (hval 0 24 v0 rfl rfl) h0
  clear hA0 hval0
  rw [MakeChecks.laidMetH_plain _ _ _ (by kernel_rfl)] at hL
  refine (walk n0 m0 s0 o0 u0 g0 W  (lb_of hL hsh)).mono fun e W' ⟨he, bel⟩ => ?_
  subst he
  exact ⟨_, rfl, _, _, _, [], _, [], hW', trodAll_mk1 (shut_bool Tryd.underlying4 _), (trodAll_cons_mk (Below.trod laidOutA (by kernel_rfl) (of_decide_eq_true (by kernel_rfl)) k0 bel lt0) trodAll_mk0), rfl, bel.frame _, fun h => by cases h⟩

theorem over : Rows.ticketProgramRow.holds Tryd.pinned (OpenSpec.ofChange Rows.ticketProgramSpec) :=
  OpenClaim.holds_of_wide 3 Tryd.f3 rfl rfl rfl rfl rfl rfl rfl ⟨rfl, rfl, rfl, rfl, rfl⟩ rfl rfl rfl rfl rfl (by kernel_rfl) Tryd.func3 (by kernel_rfl)
    (of_decide_eq_true (by kernel_rfl)) (by unfold Func.isWrapper; first | (rw [if_pos (by decide +kernel)]; kernel_rfl) | (rw [if_neg (by decide +kernel)]; exact ⟨rfl, rfl⟩))
    (fun os started H enc _ => lifted os started H enc)

/-- The statement. -/
theorem proved : Rows.TicketProgramCardSaid :=
  Claim7.holds_tied_plain_at .later [] Rows.ticketProgramCard.laidKinds true Rows.ticketProgramCard.stood.harness true over (fun _ h => by cases h) (by kernel_rfl) (fun _ h => by cases h) ticketProgram_row_tie rfl ⟨rfl, rfl⟩ (by kernel_rfl) rfl
    (fun f fn hf hfn => by
      obtain rfl : f = 3 := Option.some.inj ((show Tryd.prog.funcNamed Rows.ticketProgramRow.func = some 3 by kernel_rfl).symm.trans hf) |>.symm
      obtain rfl : fn = Tryd.f3 := (Option.some.inj (Tryd.func3.symm.trans hfn)).symm
      exact ⟨by kernel_rfl, fun j t ht => by
        rw [Tryd.params3] at ht
        have hm : t ∈ [24] := by simpa using Array.mem_of_getElem? ht
        have hall : ([24].all fun u => !Tryd.prog.wantsStandIn u) = true := by kernel_rfl
        exact (show Tryd.prog.wantsStandIn t = false by simpa using List.all_eq_true.1 hall t hm)⟩)
    (by kernel_rfl)
#print axioms proved
end Go.Proofs.YthdgehcghklflaaDoor.ticketProgram
