/- For any number of threads, and any number to begin with: TicketSpec returns true: the spec of the lock, program and all, is what the document says, or it is refused; no condition. A tied card: the listed variables of the library are tied to the program's text. -/
import Derived.Test.YthdgehcghklflaaGreatDoorSTkA
import Derived.ChangeMaps5
namespace Go.Proofs.YthdgehcghklflaaGreatDoor.ticketSpec
set_option maxRecDepth 100000
open Go.Joins Go.ChangeShapes Go.WideShapes Go.ChangeAt Go.RowKit Go.Deep
set_option linter.unusedVariables false

set_option maxHeartbeats 4000000 in
theorem walk (x0 x1 : Int) (f0 : (Lit.int .i64 x0).wf = true) (f1 : (Lit.int .u32 x1).wf = true) (W : World) (L : Lb W) :
    Calls Tryz.prog 3 #[.int .i64 x0, .int .u32 x1] W fun e w' => e = .returned (.bool true) ∧ Below W.heap.size W w' := by
  have HLB : Hid (∀ V, Below W.heap.size W V → Lb V) := Lib.hid (fun V hV => L.below hV)
  have HAw : Hid (∀ V, Below W.heap.size W V → Calls Tryz.prog 12 #[] V fun e w' => e = .returned (.bool true) ∧ Below V.heap.size V w') := Lib.hid (fun V hV => lAwake14 V (HLB.out V hV))
  obtain ⟨u0, u1⟩ : 0 ≤ x1 ∧ x1 < 4294967296 := by
    simp [Lit.wf, IntKind.min, IntKind.max, IntKind.bits, IntKind.signed] at f1
    omega
  clear f0 f1
  by_cases hn : 1 ≤ x0 ∧ x0 ≤ 64
  · obtain ⟨N, rfl⟩ : ∃ N : Nat, x0 = N := ⟨x0.toNat, by omega⟩
    have h1 : 1 ≤ N := by omega
    have h64 : N ≤ 64 := by omega
    have HC := Lib.hid (cSpec N x1 W L h1 h64 u0 u1)
    have HD := Lib.hid (fun V => rSpec N x1 V h1 h64 u0 u1)
    have hcs := fun V v u => same_spec V v u tkP [1, 1] [x1, x1] (tkR N) 0
    have HSm := Lib.hid hcs
    clear hn L hcs
    go_enter Tryz.func3, Tryz.ntmps3
    go_wp2_with fail
    refine HC.out.mono ?_
    rintro e y ⟨v, rfl, hsv, hy⟩
    have HSV := Lib.hid hsv
    obtain ⟨aL, cL, aS, cS, aI, cI, aR, cR, rfl, -⟩ := hsv
    rw [show ([1, 1] : List Int).length = 2 from rfl, show ([x1, x1] : List Int).length = 2 from rfl, show (tkR N).length = N from List.length_replicate] at *
    have hya : Below y.heap.size y (y.alloc (.cells #[.slice aL tkP.l.length cL, .int .i64 tkP.lo, .int .i64 tkP.un, .slice aS 2 cS, .slice aI 2 cI, .int .i64 0, .slice aR N cR] 29)) := (Below.refl _ _).alloc (Nat.le_refl _) _
    have q1 := Bk.made y 29 #[.slice aL tkP.l.length cL, .int .i64 tkP.lo, .int .i64 tkP.un, .slice aS 2 cS, .slice aI 2 cI, .int .i64 0, .slice aR N cR]
    have b1 := hy.trans (hya.mono hy.size)
    have HSV2 := Lib.hid (HSV.out.below hya)
    obtain ⟨yb, hyb⟩ : ∃ yb, y.heap.size = yb := ⟨_, rfl⟩
    rw [hyb] at q1
    clear HC HSV hy
    go_upto_region 2 with fail
    try rw [hyb]
    generalize y.alloc (.cells #[.slice aL tkP.l.length cL, .int .i64 tkP.lo, .int .i64 tkP.un, .slice aS 2 cS, .slice aI 2 cI, .int .i64 0, .slice aR N cR] 29) = z at *
    clear hyb hya
    go_wp2_with fail
    refine (HD.out z).mono ?_
    rintro e z1 ⟨v, rfl, hrv, hz1⟩
    have hsp := hrv.spv
    obtain ⟨sl, bS, dS, bI, dI, bR, dR, rfl, ho, -⟩ := hrv
    obtain ⟨bL, dL, rfl, -⟩ := own_is ho
    rw [show ([1, 1] : List Int).length = 2 from rfl, show ([x1, x1] : List Int).length = 2 from rfl, show (tkR N).length = N from List.length_replicate] at *
    have hza : Below z1.heap.size z1 (z1.alloc (.cells #[.slice bL tkP.l.length dL, .int .i64 tkP.lo, .int .i64 tkP.un, .slice bS 2 dS, .slice bI 2 dI, .int .i64 0, .slice bR N dR] 37)) := (Below.refl _ _).alloc (Nat.le_refl _) _
    have q2 := Bk.made z1 37 #[.slice bL tkP.l.length dL, .int .i64 tkP.lo, .int .i64 tkP.un, .slice bS 2 dS, .slice bI 2 dI, .int .i64 0, .slice bR N dR]
    have b2 := b1.trans ((hz1.trans (hza.mono hz1.size)).mono b1.size)
    have hq1 := ((hz1.trans (hza.mono hz1.size)).block _ (Bk.lt q1)).trans q1
    have HSV3 := Lib.hid (HSV2.out.below (hz1.trans (hza.mono hz1.size)))
    have HSP := Lib.hid (SpV.below hsp hza)
    obtain ⟨zb, hzb⟩ : ∃ zb, z1.heap.size = zb := ⟨_, rfl⟩
    rw [hzb] at q2
    clear HD HSV2 hz1 b1 ho q1 hsp
    go_upto_region 5 with fail
    try rw [hzb]
    generalize z1.alloc (.cells #[.slice bL tkP.l.length dL, .int .i64 tkP.lo, .int .i64 tkP.un, .slice bS 2 dS, .slice bI 2 dI, .int .i64 0, .slice bR N dR] 37) = x at *
    clear hza hzb
    have HQ : Hid (∀ V, Below x.heap.size x V → Bk V yb 29 #[.slice aL tkP.l.length cL, .int .i64 tkP.lo, .int .i64 tkP.un, .slice aS 2 cS, .slice aI 2 cI, .int .i64 0, .slice aR N cR] ∧ Bk V zb 37 #[.slice bL tkP.l.length dL, .int .i64 tkP.lo, .int .i64 tkP.un, .slice bS 2 dS, .slice bI 2 dI, .int .i64 0, .slice bR N dR] ∧ Below W.heap.size W V) := Lib.hid fun V hV => ⟨(hV.block _ (Bk.lt hq1)).trans hq1, (hV.block _ (Bk.lt q2)).trans q2, b2.trans (hV.mono b2.size)⟩
    clear hq1 q2 b2
    have HT1 : Hid (∀ V, Calls Tryz.prog 13 #[] V fun e w' => e = .returned (bs tkText) ∧ V = w') := Lib.hid (fun V => tkText_c V)
    have HT2 : Hid (∀ V, Calls Tryz.prog 14 #[] V fun e w' => e = .returned (bs tkText) ∧ V = w') := Lib.hid (fun V => tkText_r V)
    obtain ⟨sx, hsx⟩ : ∃ sx, bs tkText = .string sx := ⟨_, rfl⟩
    rw [hsx] at HT1 HT2
    clear hsx
    have HRf : Hid (∀ V, Below x.heap.size x V → Calls Tryz.prog 11 #[.agg #[.slice aL tkP.l.length cL, .int .i64 tkP.lo, .int .i64 tkP.un, .slice aS 2 cS, .slice aI 2 cI, .int .i64 0, .slice aR N cR]] V fun e w' => ∃ v', e = .returned v' ∧ SpV w' v' tkP [1, 1] [x1, x1] (tkR N) 0 ∧ Below V.heap.size V w') := Lib.hid (fun V hV => (lRef10 (HSV3.out.below hV) (by decide)).mono fun e w' ⟨v', h1, h2, h3⟩ => ⟨v', h1, h2.spv, h3⟩)
    have HSm2 : Hid (∀ V v, Below x.heap.size x V → SpV V v tkP [1, 1] [x1, x1] (tkR N) 0 → Calls Tryz.prog 10 #[v, .agg #[.slice bL tkP.l.length dL, .int .i64 tkP.lo, .int .i64 tkP.un, .slice bS 2 dS, .slice bI 2 dI, .int .i64 0, .slice bR N dR]] V fun e w' => e = .returned (.bool true) ∧ Below V.heap.size V w') := Lib.hid (fun V v hV hv => HSm.out V v _ hv (HSP.out.below hV) (by decide))
    clear HSm HSV3 HSP
    generalize tkP = c at *
    refine wp_region_flow [] (fun _ V => Below x.heap.size x V) (fun _ _ _ => False) (fun vs => { tmps := #[.int .i64 (N : Int), .int .u32 x1, undef, undef, vs 16, .pointer (some ⟨yb, 0, none⟩), .int .i64 0, .pointer (some ⟨zb, 0, none⟩), .bool true, .tuple #[.agg #[.slice aL c.l.length cL, .int .i64 c.lo, .int .i64 c.un, .slice aS 2 cS, .slice aI 2 cI, .int .i64 0, .slice aR N cR], .int .i64 0], .int .i64 (N : Int), .int .u32 x1, .tuple #[.agg #[.slice aL c.l.length cL, .int .i64 c.lo, .int .i64 c.un, .slice aS 2 cS, .slice aI 2 cI, .int .i64 0, .slice aR N cR], .int .i64 0], .agg #[.slice aL c.l.length cL, .int .i64 c.lo, .int .i64 c.un, .slice aS 2 cS, .slice aI 2 cI, .int .i64 0, .slice aR N cR], .int .i64 0, .tuple #[.agg #[.slice bL c.l.length dL, .int .i64 c.lo, .int .i64 c.un, .slice bS 2 dS, .slice bI 2 dI, .int .i64 0, .slice bR N dR], .bool true], .int .i64 (N : Int), .int .u32 x1, .tuple #[.agg #[.slice bL c.l.length dL, .int .i64 c.lo, .int .i64 c.un, .slice bS 2 dS, .slice bI 2 dI, .int .i64 0, .slice bR N dR], .bool true], .agg #[.slice bL c.l.length dL, .int .i64 c.lo, .int .i64 c.un, .slice bS 2 dS, .slice bI 2 dI, .int .i64 0, .slice bR N dR], .bool true, .bool true, .bool false, undef, undef, undef, undef, undef, undef, undef, undef, undef, undef, undef, vs 0, vs 1, vs 2, vs 3, vs 4, vs 5, vs 6, vs 7, vs 8, vs 9, vs 10, vs 11, vs 12, vs 13, vs 14, vs 15], defers := [] }) (mixT [(4, (fun v V => SpV V v c [1, 1] [x1, x1] (tkR N) 0))] [.int .i64 0, .bool true, .bool true, .agg #[.slice aL c.l.length cL, .int .i64 c.lo, .int .i64 c.un, .slice aS 2 cS, .slice aI 2 cI, .int .i64 0, .slice aR N cR], undef, .agg #[.slice bL c.l.length dL, .int .i64 c.lo, .int .i64 c.un, .slice bS 2 dS, .slice bI 2 dI, .int .i64 0, .slice bR N dR], .bool true, .bool true, .bool true, .string sx, .string sx, .bool true, .bool true, .bool true, .bool true, .bool true, .bool true]) ?ghm ?ghr ?ghc ?ghnd ?ghlit ?gh0 ?ghW ?ghF ?ghS ?gops ?gdone
    case ghm => kernel_rfl
    case ghr => kernel_rfl
    case ghc => kernel_rfl
    case ghnd => decide
    case ghlit => intro vs; rfl
    case gh0 => exact Below.refl _ _
    case ghW => exact fun kk V V2 h hb => h.trans (hb.mono h.size)
    case ghF => exact mixT_stable (by
      intro p0 hp
      simp only [List.mem_cons, List.not_mem_nil, or_false] at hp
      rcases hp with rfl
      exact fun v V V2 h hb => SpV.below h hb)
    case ghS => exact fun kk V V2 _ hs i v h => hs.elim
    case gops =>
      refine ⟨?_, ?_, ?_, ?_, ?_, ?_, ?_, ?_, ?_, ?_, ?_, ?_, ?_, ?_, ?_, ?_, ?_, trivial⟩
      · intro vs V kk h1 h2 hW hd
        obtain rfl : kk = 0 := Nat.le_zero.1 h2
        refine leaves_free rfl ?_
        clear hd
        go_simp
        exact ⟨rfl, Below.refl _ _⟩
      · intro vs V kk h1 h2 hW hd
        obtain rfl : kk = 0 := Nat.le_zero.1 h2
        refine leaves_free rfl ?_
        have e0 : vs 0 = .int .i64 0 := hd 0 (by decide)
        clear hd
        go_simp
        exact ⟨rfl, Below.refl _ _⟩
      · intro vs V kk h1 h2 hW hd
        obtain rfl : kk = 0 := Nat.le_zero.1 h2
        refine leaves_free rfl ?_
        have e1 : vs 1 = .bool true := hd 1 (by decide)
        clear hd
        go_simp
        exact ⟨rfl, Below.refl _ _⟩
      · intro vs V kk h1 h2 hW hd
        obtain rfl : kk = 0 := Nat.le_zero.1 h2
        have eg : vs 2 = .bool true := hd 2 (by decide)
        refine leaves_guard rfl (by show (match some (vs 2) with | some (.bool b) => some b | _ => none) = some true; rw [eg]) ?_
        clear eg
        have hq := (HQ.out V hW).1
        obtain ⟨y0, y1, y2, y3, y4, y5, y6⟩ : V.cell? ⟨yb, 0, none⟩ = some (.slice aL c.l.length cL) ∧ V.cell? ⟨yb, 1, none⟩ = some (.int .i64 c.lo) ∧ V.cell? ⟨yb, 2, none⟩ = some (.int .i64 c.un) ∧ V.cell? ⟨yb, 3, none⟩ = some (.slice aS 2 cS) ∧ V.cell? ⟨yb, 4, none⟩ = some (.slice aI 2 cI) ∧ V.cell? ⟨yb, 5, none⟩ = some (.int .i64 0) ∧ V.cell? ⟨yb, 6, none⟩ = some (.slice aR N cR) := ⟨hq.cell 0, hq.cell 1, hq.cell 2, hq.cell 3, hq.cell 4, hq.cell 5, hq.cell 6⟩
        clear hq
        clear hd
        go_simp
        exact ⟨rfl, Below.refl _ _⟩
      · intro vs V kk h1 h2 hW hd
        obtain rfl : kk = 0 := Nat.le_zero.1 h2
        have eg : vs 2 = .bool true := hd 2 (by decide)
        refine leaves_guard rfl (by show (match some (vs 2) with | some (.bool b) => some b | _ => none) = some true; rw [eg]) ?_
        clear eg
        have e3 : vs 3 = .agg #[.slice aL c.l.length cL, .int .i64 c.lo, .int .i64 c.un, .slice aS 2 cS, .slice aI 2 cI, .int .i64 0, .slice aR N cR] := hd 3 (by decide)
        clear hd
        go_simp
        refine (HRf.out V hW).mono ?_
        rintro e zz ⟨v', rfl, h5, h6⟩
        exact ⟨_, rfl, h5, h6⟩
      · intro vs V kk h1 h2 hW hd
        obtain rfl : kk = 0 := Nat.le_zero.1 h2
        have eg : vs 2 = .bool true := hd 2 (by decide)
        refine leaves_guard rfl (by show (match some (vs 2) with | some (.bool b) => some b | _ => none) = some true; rw [eg]) ?_
        clear eg
        have hq := (HQ.out V hW).2.1
        obtain ⟨y0, y1, y2, y3, y4, y5, y6⟩ : V.cell? ⟨zb, 0, none⟩ = some (.slice bL c.l.length dL) ∧ V.cell? ⟨zb, 1, none⟩ = some (.int .i64 c.lo) ∧ V.cell? ⟨zb, 2, none⟩ = some (.int .i64 c.un) ∧ V.cell? ⟨zb, 3, none⟩ = some (.slice bS 2 dS) ∧ V.cell? ⟨zb, 4, none⟩ = some (.slice bI 2 dI) ∧ V.cell? ⟨zb, 5, none⟩ = some (.int .i64 0) ∧ V.cell? ⟨zb, 6, none⟩ = some (.slice bR N dR) := ⟨hq.cell 0, hq.cell 1, hq.cell 2, hq.cell 3, hq.cell 4, hq.cell 5, hq.cell 6⟩
        clear hq
        clear hd
        go_simp
        exact ⟨rfl, Below.refl _ _⟩
      · intro vs V kk h1 h2 hW hd
        obtain rfl : kk = 0 := Nat.le_zero.1 h2
        have eg : vs 2 = .bool true := hd 2 (by decide)
        refine leaves_guard rfl (by show (match some (vs 2) with | some (.bool b) => some b | _ => none) = some true; rw [eg]) ?_
        clear eg
        have e5 : vs 5 = .agg #[.slice bL c.l.length dL, .int .i64 c.lo, .int .i64 c.un, .slice bS 2 dS, .slice bI 2 dI, .int .i64 0, .slice bR N dR] := hd 5 (by decide)
        have e4 : SpV V (vs 4) c [1, 1] [x1, x1] (tkR N) 0 := hd 4 (by decide)
        have HS4 := Lib.hid (HSm2.out V (vs 4) hW e4)
        clear e4
        clear hd
        go_simp
        refine (HS4.out).mono ?_
        rintro e zz ⟨rfl, h6⟩
        exact ⟨_, rfl, rfl, h6⟩
      · intro vs V kk h1 h2 hW hd
        obtain rfl : kk = 0 := Nat.le_zero.1 h2
        refine leaves_free rfl ?_
        have e2 : vs 2 = .bool true := hd 2 (by decide)
        have e6 : vs 6 = .bool true := hd 6 (by decide)
        clear hd
        go_simp
        exact ⟨rfl, Below.refl _ _⟩
      · intro vs V kk h1 h2 hW hd
        obtain rfl : kk = 0 := Nat.le_zero.1 h2
        refine leaves_free rfl ?_
        have e7 : vs 7 = .bool true := hd 7 (by decide)
        clear hd
        go_simp
        exact ⟨rfl, Below.refl _ _⟩
      · intro vs V kk h1 h2 hW hd
        obtain rfl : kk = 0 := Nat.le_zero.1 h2
        have eg : vs 8 = .bool true := hd 8 (by decide)
        refine leaves_guard rfl (by show (match some (vs 8) with | some (.bool b) => some b | _ => none) = some true; rw [eg]) ?_
        clear eg
        clear hd
        go_simp
        refine (HT1.out V).mono ?_
        rintro e zz ⟨rfl, rfl⟩
        exact ⟨_, rfl, rfl, Below.refl _ _⟩
      · intro vs V kk h1 h2 hW hd
        obtain rfl : kk = 0 := Nat.le_zero.1 h2
        have eg : vs 8 = .bool true := hd 8 (by decide)
        refine leaves_guard rfl (by show (match some (vs 8) with | some (.bool b) => some b | _ => none) = some true; rw [eg]) ?_
        clear eg
        clear hd
        go_simp
        refine (HT2.out V).mono ?_
        rintro e zz ⟨rfl, rfl⟩
        exact ⟨_, rfl, rfl, Below.refl _ _⟩
      · intro vs V kk h1 h2 hW hd
        obtain rfl : kk = 0 := Nat.le_zero.1 h2
        have eg : vs 8 = .bool true := hd 8 (by decide)
        refine leaves_guard rfl (by show (match some (vs 8) with | some (.bool b) => some b | _ => none) = some true; rw [eg]) ?_
        clear eg
        have e9 : vs 9 = .string sx := hd 9 (by decide)
        have e10 : vs 10 = .string sx := hd 10 (by decide)
        clear hd
        go_simp
        exact ⟨rfl, Below.refl _ _⟩
      · intro vs V kk h1 h2 hW hd
        obtain rfl : kk = 0 := Nat.le_zero.1 h2
        refine leaves_free rfl ?_
        have e8 : vs 8 = .bool true := hd 8 (by decide)
        have e11 : vs 11 = .bool true := hd 11 (by decide)
        clear hd
        go_simp
        exact ⟨rfl, Below.refl _ _⟩
      · intro vs V kk h1 h2 hW hd
        obtain rfl : kk = 0 := Nat.le_zero.1 h2
        refine leaves_free rfl ?_
        have e12 : vs 12 = .bool true := hd 12 (by decide)
        clear hd
        go_simp
        exact ⟨rfl, Below.refl _ _⟩
      · intro vs V kk h1 h2 hW hd
        obtain rfl : kk = 0 := Nat.le_zero.1 h2
        have eg : vs 13 = .bool true := hd 13 (by decide)
        refine leaves_guard rfl (by show (match some (vs 13) with | some (.bool b) => some b | _ => none) = some true; rw [eg]) ?_
        clear eg
        have HA9 := Lib.hid (HAw.out V (HQ.out V hW).2.2)
        clear hd
        go_simp
        refine (HA9.out).mono ?_
        rintro e zz ⟨rfl, h6⟩
        exact ⟨_, rfl, rfl, h6⟩
      · intro vs V kk h1 h2 hW hd
        obtain rfl : kk = 0 := Nat.le_zero.1 h2
        refine leaves_free rfl ?_
        have e13 : vs 13 = .bool true := hd 13 (by decide)
        have e14 : vs 14 = .bool true := hd 14 (by decide)
        clear hd
        go_simp
        exact ⟨rfl, Below.refl _ _⟩
      · intro vs V kk h1 h2 hW hd
        obtain rfl : kk = 0 := Nat.le_zero.1 h2
        refine leaves_free rfl ?_
        have e15 : vs 15 = .bool true := hd 15 (by decide)
        clear hd
        go_simp
        exact ⟨rfl, Below.refl _ _⟩
    case gdone =>
      intro vs V hW hf
      have f0 : vs 0 = .int .i64 0 := hf 0 (by decide)
      have f1 : vs 1 = .bool true := hf 1 (by decide)
      have f2 : vs 2 = .bool true := hf 2 (by decide)
      have f3 : vs 3 = .agg #[.slice aL c.l.length cL, .int .i64 c.lo, .int .i64 c.un, .slice aS 2 cS, .slice aI 2 cI, .int .i64 0, .slice aR N cR] := hf 3 (by decide)
      have f5 : vs 5 = .agg #[.slice bL c.l.length dL, .int .i64 c.lo, .int .i64 c.un, .slice bS 2 dS, .slice bI 2 dI, .int .i64 0, .slice bR N dR] := hf 5 (by decide)
      have f6 : vs 6 = .bool true := hf 6 (by decide)
      have f7 : vs 7 = .bool true := hf 7 (by decide)
      have f8 : vs 8 = .bool true := hf 8 (by decide)
      have f9 : vs 9 = .string sx := hf 9 (by decide)
      have f10 : vs 10 = .string sx := hf 10 (by decide)
      have f11 : vs 11 = .bool true := hf 11 (by decide)
      have f12 : vs 12 = .bool true := hf 12 (by decide)
      have f13 : vs 13 = .bool true := hf 13 (by decide)
      have f14 : vs 14 = .bool true := hf 14 (by decide)
      have f15 : vs 15 = .bool true := hf 15 (by decide)
      have f16 : vs 16 = .bool true := hf 16 (by decide)
      simp only [f0, f1, f2, f3, f5, f6, f7, f8, f9, f10, f11, f12, f13, f14, f15, f16]
      clear f0 f1 f2 f3 f5 f6 f7 f8 f9 f10 f11 f12 f13 f14 f15 f16
      generalize vs 4 = r4 at *
      have hfin := (HQ.out V hW).2.2
      clear hf HQ
      go_wp2
      go_ret
      exact ⟨rfl, hfin⟩
  · have HC := Lib.hid (cSpecNo x0 x1 W hn)
    have HD := Lib.hid (fun V => rSpecNo x0 x1 V hn)
    have HRf : Hid (∀ V, Calls Tryz.prog 11 #[spZ] V fun e w' => ∃ v', e = .returned v' ∧ SpV w' v' Prg.zero [] [] [] 0 ∧ Below V.heap.size V w') := Lib.hid (fun V => (lRef10 (sv_zero V) (by decide)).mono fun e w' ⟨v', h1, h2, h3⟩ => ⟨v', h1, h2.spv, h3⟩)
    have HSm : Hid (∀ V v, SpV V v Prg.zero [] [] [] 0 → Calls Tryz.prog 10 #[v, spZ] V fun e w' => e = .returned (.bool true) ∧ Below V.heap.size V w') := Lib.hid (fun V v hv => same_spec V v spZ Prg.zero [] [] [] 0 hv (spv_zero V) (by decide))
    clear hn L
    unfold spZ at HC HD HRf HSm
    go_enter Tryz.func3, Tryz.ntmps3
    go_wp2_with fail
    refine HC.out.mono ?_
    rintro e y ⟨rfl, hy⟩
    have b1 := hy.alloc (o := .cells #[.slice none 0 0, .int .i64 0, .int .i64 0, .slice none 0 0, .slice none 0 0, .int .i64 0, .slice none 0 0] 29) hy.size
    have q1 := Bk.made y 29 #[.slice none 0 0, .int .i64 0, .int .i64 0, .slice none 0 0, .slice none 0 0, .int .i64 0, .slice none 0 0]
    clear HC hy
    obtain ⟨yb, hyb⟩ : ∃ yb, y.heap.size = yb := ⟨_, rfl⟩
    rw [hyb] at q1
    go_upto_region 2 with fail
    try rw [hyb]
    generalize y.alloc (.cells #[.slice none 0 0, .int .i64 0, .int .i64 0, .slice none 0 0, .slice none 0 0, .int .i64 0, .slice none 0 0] 29) = z at *
    clear hyb
    go_wp2_with fail
    refine (HD.out z).mono ?_
    rintro e z1 ⟨rfl, hz1⟩
    have hz2 := hz1.trans (((Below.refl z1.heap.size z1).alloc (Nat.le_refl _) (.cells #[.slice none 0 0, .int .i64 0, .int .i64 0, .slice none 0 0, .slice none 0 0, .int .i64 0, .slice none 0 0] 37)).mono hz1.size)
    have b2 := b1.trans (hz2.mono b1.size)
    replace q1 : Bk (z1.alloc (.cells #[.slice none 0 0, .int .i64 0, .int .i64 0, .slice none 0 0, .slice none 0 0, .int .i64 0, .slice none 0 0] 37)) yb 29 #[.slice none 0 0, .int .i64 0, .int .i64 0, .slice none 0 0, .slice none 0 0, .int .i64 0, .slice none 0 0] := (hz2.block _ (Bk.lt q1)).trans q1
    clear HD hz1 hz2 b1
    go_upto_region 4 with fail
    generalize z1.alloc (.cells #[.slice none 0 0, .int .i64 0, .int .i64 0, .slice none 0 0, .slice none 0 0, .int .i64 0, .slice none 0 0] 37) = x at *
    obtain ⟨y0, y1, y2, y3, y4, y5, y6⟩ : x.cell? ⟨yb, 0, none⟩ = some (.slice none 0 0) ∧ x.cell? ⟨yb, 1, none⟩ = some (.int .i64 0) ∧ x.cell? ⟨yb, 2, none⟩ = some (.int .i64 0) ∧ x.cell? ⟨yb, 3, none⟩ = some (.slice none 0 0) ∧ x.cell? ⟨yb, 4, none⟩ = some (.slice none 0 0) ∧ x.cell? ⟨yb, 5, none⟩ = some (.int .i64 0) ∧ x.cell? ⟨yb, 6, none⟩ = some (.slice none 0 0) := ⟨q1.cell 0, q1.cell 1, q1.cell 2, q1.cell 3, q1.cell 4, q1.cell 5, q1.cell 6⟩
    clear q1
    go_wp2_with fail
    refine (HRf.out x).mono ?_
    rintro e x2 ⟨v2, rfl, hsp, hx2⟩
    have b3 := b2.trans (hx2.mono b2.size)
    have HS2 := Lib.hid (HSm.out x2 v2 hsp)
    clear HRf HSm y0 y1 y2 y3 y4 y5 y6 hsp b2 hx2
    go_wp2_with fail
    refine HS2.out.mono ?_
    rintro e x3 ⟨rfl, hx3⟩
    have b4 := b3.trans (hx3.mono b3.size)
    clear HS2 hx3 b3
    go_wp2_with fail
    refine (HAw.out _ (b4)).mono ?_
    rintro e w9 ⟨rfl, hw9⟩
    have hf := (b4).trans (hw9.mono (b4).size)
    go_wp2
    go_ret
    exact ⟨rfl, hf⟩

set_option maxRecDepth 100000 in
theorem lifted (os : Os) (started : os.Started) (H : Type) (enc : TypeId × Value → H) :
    ReturnsInHanded {} Tryz.checked os 3 .any (fun w args => (Rows.ticketSpecSpec.pre enc Tryz.prog Tryz.f3 [] false w args ∧ laidMetH Tryz.prog Rows.ticketSpecRow.laid w) ∧ sizedMet enc Tryz.prog Tryz.f3 (OpenSpec.ofChange Rows.ticketSpecSpec) false w args)
      (Rows.ticketSpecSpec.post enc Tryz.prog Tryz.f3 false true false false) := by
  refine returns_laid (C := Tryz.checked) (X := fun w _ => laidMetH Tryz.prog Rows.ticketSpecRow.laid w) (fun _ _ _ hh h => h.of_heap hh) ownA started (by kernel_rfl) Tryz.func3
    (ChangeSpec.witness_shaped (enc := enc) (C := Tryz.checked) (os := os) (X := fun w _ => laidMetH Tryz.prog Rows.ticketSpecRow.laid w) false (World.laidAll Tryz.prog os Rows.ticketSpecRow.laid) #[.int .i64 0, .int .u32 0] 8 (World.laidAll_os _ _ _)
      (World.shaped_of_ZipB (by kernel_rfl) (by kernel_rfl)) (by kernel_rfl) (by kernel_rfl) (by kernel_rfl)
      (by rw [MakeChecks.laidMetH_plain _ _ _ (by kernel_rfl)]; exact laidMet_laidAll _ (by kernel_rfl) (by kernel_rfl))) ?_
  intro W base args ds gs before hval0 hW hL hsh
  have hval : ∀ (j : Nat) t v, Tryz.f3.params[j]? = some t → args[j]? = some v → Value.okWide Tryz.prog W .any base t v := hval0
  have hW' := hW
  obtain ⟨p, q, hA0, hV, rfl, _, _⟩ := hW
  have hA : DataW.TrodAll enc Tryz.prog W 0 (fun _ => true) true Tryz.f3.params.toList args.toList ds p := hA0
  rw [Tryz.params3] at hA hval
  obtain ⟨v0, vs0, d0, ds0, p0, q0, hargs, rfl, rfl, h0, r0⟩ := trodAll_cons hA
  obtain ⟨v1, vs1, d1, ds1, p1, q1, rfl, rfl, rfl, h1, r1⟩ := trodAll_cons r0
  obtain ⟨rfl, rfl, rfl⟩ := trodAll_nil r1
  obtain rfl : args = #[v0, v1] := by cases args; simp_all
  obtain ⟨rfl, rfl⟩ := trodVars_none hV
  have k0 := h0
  have lt0 : ∀ x ∈ p0, x.block < W.heap.size := by obtain ⟨m, hm⟩ := k0; exact DataW.trod_lt m _ _ _ hm
  obtain ⟨x0, rfl, rfl, rfl, f0⟩ := open_int Tryz.underlying3 (hval 0 3 v0 rfl rfl) h0
  have k1 := h1
  have lt1 : ∀ x ∈ p1, x.block < W.heap.size := by obtain ⟨m, hm⟩ := k1; exact DataW.trod_lt m _ _ _ hm
  obtain ⟨x1, rfl, rfl, rfl, f1⟩ := open_int Tryz.underlying22 (hval 1 22 v1 rfl rfl) h1
  clear hA0 hval0
  rw [MakeChecks.laidMetH_plain _ _ _ (by kernel_rfl)] at hL
  refine (walk x0 x1 f0 f1 W  (lb_of hL hsh)).mono fun e W' ⟨he, bel⟩ => ?_
  subst he
  exact ⟨_, rfl, _, _, _, [], _, [], hW', trodAll_mk1 (shut_bool Tryz.underlying4 _), (trodAll_cons_mk (Below.trod laidOutA (by kernel_rfl) (of_decide_eq_true (by kernel_rfl)) k0 bel lt0) (trodAll_cons_mk (Below.trod laidOutA (by kernel_rfl) (of_decide_eq_true (by kernel_rfl)) k1 bel lt1) trodAll_mk0)), rfl, bel.frame _, fun h => by cases h⟩

theorem over : Rows.ticketSpecRow.holds Tryz.pinned (OpenSpec.ofChange Rows.ticketSpecSpec) :=
  OpenClaim.holds_of_wide 3 Tryz.f3 rfl rfl rfl rfl rfl rfl rfl ⟨rfl, rfl, rfl, rfl, rfl⟩ rfl rfl rfl rfl rfl (by kernel_rfl) Tryz.func3 (by kernel_rfl)
    (of_decide_eq_true (by kernel_rfl)) (by unfold Func.isWrapper; first | (rw [if_pos (by decide +kernel)]; kernel_rfl) | (rw [if_neg (by decide +kernel)]; exact ⟨rfl, rfl⟩))
    (fun os started H enc _ => lifted os started H enc)

/-- The statement. -/
theorem proved : Rows.TicketSpecCardSaid :=
  Claim7.holds_tied_plain_at .later [] Rows.ticketSpecCard.laidKinds true Rows.ticketSpecCard.stood.harness true over (fun _ h => by cases h) (by kernel_rfl) (fun _ h => by cases h) ticketSpec_row_tie rfl ⟨rfl, rfl⟩ (by kernel_rfl) rfl
    (fun f fn hf hfn => by
      obtain rfl : f = 3 := Option.some.inj ((show Tryz.prog.funcNamed Rows.ticketSpecRow.func = some 3 by kernel_rfl).symm.trans hf) |>.symm
      obtain rfl : fn = Tryz.f3 := (Option.some.inj (Tryz.func3.symm.trans hfn)).symm
      exact ⟨by kernel_rfl, fun j t ht => by
        rw [Tryz.params3] at ht
        have hm : t ∈ [3, 22] := by simpa using Array.mem_of_getElem? ht
        have hall : ([3, 22].all fun u => !Tryz.prog.wantsStandIn u) = true := by kernel_rfl
        exact (show Tryz.prog.wantsStandIn t = false by simpa using List.all_eq_true.1 hall t hm)⟩)
    (by kernel_rfl)
#print axioms proved
end Go.Proofs.YthdgehcghklflaaGreatDoor.ticketSpec
