/- For every core, every right program and every thread: CoreRuns returns true, so core.Run answers the document's core, marks, end and error, from any place on, and always stops; no condition. -/
import Derived.Test.YtmjmedbepmdjcaaCoreW
import Derived.Test.YtmjmedbepmdjcaaRightP
import Derived.Test.YtmjmedbepmdjcaaRefP
import Derived.BigQuiet
import Derived.Deep.DeepCutAuto
import Derived.Test.YtmjmedbepmdjcaaHold
namespace Go.Proofs.Ytmjmedbepmdjcaa.coreRuns
open Go.ChangeShapes Go.WideShapes Go.ChangeAt Go.RowKit
set_option linter.unusedVariables false

set_option maxHeartbeats 4000000 in
set_option maxRecDepth 100000 in
theorem walk (xs : List Int) (pc : Int) (c : Prg) (v : Value) (self : Int) (w : World) (hx : Eight xs) (hp : -9223372036854775808 ≤ pc ∧ pc ≤ 9223372036854775807) (hv : Pv w v c) (hc : PrgWf c) (hs : 0 ≤ self ∧ self < 256) :
    Calls Try.prog 4 #[cv xs pc, v, .int .u8 self] w fun e w' => e = .returned (.bool true) ∧ Below w.heap.size w w' := by
  have HA := Lib.hid lAwake8
  have HRF := Lib.hid (fun (h : c.l.length ≤ 1000) W v (hv : Pv W v c) => lRef c v W hv h)
  have HRP := Lib.hid (fun W v (hv : Pv W v c) => rRightP c v W hv hc.ins)
  have HOK : Hid (prgB c = true → ∀ i ∈ c.l, OkI i) := Lib.hid fun h i hi => by
    unfold prgB at h
    simp only [Bool.and_eq_true, List.all_eq_true] at h
    exact ok_of (h.2.2.2.2.2.2 i hi) (hc.ins i hi).k0 (hc.ins i hi).k1
  generalize hpb : prgB c = pb at *
  obtain ⟨a, ca, rfl, hc1, hc2, hcn, ha⟩ := hv
  obtain ⟨r0, r1, r2, r3, r4, r5, r6, r7, hxs⟩ := eight_cons hx.1
  subst hxs
  have q0 : Cb ((w.alloc (.cells #[.int .u32 r0, .int .u32 r1, .int .u32 r2, .int .u32 r3, .int .u32 r4, .int .u32 r5, .int .u32 r6, .int .u32 r7, .int .i64 pc] 25)).alloc (.cells #[.slice a c.l.length ca, .int .i64 c.lo, .int .i64 c.un] 41)) w.heap.size [r0, r1, r2, r3, r4, r5, r6, r7] pc := (Cb.made w [r0, r1, r2, r3, r4, r5, r6, r7] pc).alloc (.cells #[.slice a c.l.length ca, .int .i64 c.lo, .int .i64 c.un] 41)
  have q1 : Bk ((w.alloc (.cells #[.int .u32 r0, .int .u32 r1, .int .u32 r2, .int .u32 r3, .int .u32 r4, .int .u32 r5, .int .u32 r6, .int .u32 r7, .int .i64 pc] 25)).alloc (.cells #[.slice a c.l.length ca, .int .i64 c.lo, .int .i64 c.un] 41)) (w.heap.size + 1) 41 #[.slice a c.l.length ca, .int .i64 c.lo, .int .i64 c.un] := by
    have := Bk.made (w.alloc (.cells #[.int .u32 r0, .int .u32 r1, .int .u32 r2, .int .u32 r3, .int .u32 r4, .int .u32 r5, .int .u32 r6, .int .u32 r7, .int .i64 pc] 25)) 41 #[.slice a c.l.length ca, .int .i64 c.lo, .int .i64 c.un]
    rw [World.size_alloc] at this
    exact this
  have b0 : Below w.heap.size w ((w.alloc (.cells #[.int .u32 r0, .int .u32 r1, .int .u32 r2, .int .u32 r3, .int .u32 r4, .int .u32 r5, .int .u32 r6, .int .u32 r7, .int .i64 pc] 25)).alloc (.cells #[.slice a c.l.length ca, .int .i64 c.lo, .int .i64 c.un] 41)) := ((Below.refl _ _).alloc (Nat.le_refl _) _).alloc (by simp) _
  have HPV : Hid (∀ W, Below w.heap.size w W → Pv W (.agg #[.slice a c.l.length ca, .int .i64 c.lo, .int .i64 c.un]) c) := Lib.hid fun W hW => ⟨a, ca, rfl, hc1, hc2, hcn, ha.below hW⟩
  unfold cv at *
  simp only [corC, List.map_cons, List.map_nil, List.cons_append, List.nil_append] at *
  go_enter Try.func4, Try.ntmps4
  go_upto_region 1 with fail
  generalize (w.alloc (.cells #[.int .u32 r0, .int .u32 r1, .int .u32 r2, .int .u32 r3, .int .u32 r4, .int .u32 r5, .int .u32 r6, .int .u32 r7, .int .i64 pc] 25)).alloc (.cells #[.slice a c.l.length ca, .int .i64 c.lo, .int .i64 c.un] 41) = x at *
  obtain ⟨k0, k1, k2⟩ : x.cell? ⟨w.heap.size + 1, 0, none⟩ = some (.slice a c.l.length ca) ∧ x.cell? ⟨w.heap.size + 1, 1, none⟩ = some (.int .i64 c.lo) ∧ x.cell? ⟨w.heap.size + 1, 2, none⟩ = some (.int .i64 c.un) := ⟨q1.cell 0, q1.cell 1, q1.cell 2⟩
  by_cases hlen : (c.l.length : Int) > 64
  · clear HOK HRP HRF HPV
    go_wp2_with fail
    refine (HA.out _).mono ?_
    rintro e y2 ⟨rfl, hy⟩
    go_wp2
    go_ret
    exact ⟨rfl, b0.trans (hy.mono b0.size)⟩
  have hl64 : c.l.length ≤ 64 := by omega
  have hld : decide ((c.l.length : Int) > 64) = false := by simpa using hlen
  go_wp2_with fail
  refine (HRF.out (by omega) _ _ (HPV.out _ b0)).mono ?_
  rintro e y ⟨v1, rfl, hv1, hy⟩
  replace q0 := q0.below hy
  replace q1 : Bk y _ _ _ := (hy.block _ q1.lt).trans q1
  replace b0 := b0.trans (hy.mono b0.size)
  clear k0 k1 k2 hy
  go_wp2_with fail
  refine (HRP.out _ _ hv1).mono ?_
  rintro e z ⟨rfl, hy⟩
  replace q0 := q0.below hy
  replace q1 : Bk z _ _ _ := (hy.block _ q1.lt).trans q1
  replace b0 := b0.trans (hy.mono b0.size)
  clear hy hv1 HRP
  cases pb with
  | false =>
    clear HOK HRF HPV
    go_wp2_with fail
    refine (HA.out _).mono ?_
    rintro e y2 ⟨rfl, hy⟩
    go_wp2
    go_ret
    exact ⟨rfl, b0.trans (hy.mono b0.size)⟩
  | true =>
    have hok := HOK.out rfl
    clear HOK
    obtain ⟨c0, c1, c2, c3, c4, c5, c6, c7, c8⟩ := q0.cells
    obtain ⟨k0, k1, k2⟩ : z.cell? ⟨w.heap.size + 1, 0, none⟩ = some (.slice a c.l.length ca) ∧ z.cell? ⟨w.heap.size + 1, 1, none⟩ = some (.int .i64 c.lo) ∧ z.cell? ⟨w.heap.size + 1, 2, none⟩ = some (.int .i64 c.un) := ⟨q1.cell 0, q1.cell 1, q1.cell 2⟩
    have HRun := Lib.hid (fun W v (hv : Pv W v c) => cRun c v [r0, r1, r2, r3, r4, r5, r6, r7] pc (self % 64) W hv hl64 hok hx (by omega) (by omega))
    have HRR := Lib.hid (fun W v (hv : Pv W v c) => rRun c v [r0, r1, r2, r3, r4, r5, r6, r7] pc (self % 64) W hv hl64 hok hx (by omega) (by omega))
    have HE := runL_eight hok (show 0 ≤ self % 64 by omega) (show self % 64 < 4294967296 by omega) 256 [r0, r1, r2, r3, r4, r5, r6, r7] pc [] hx
    have H2 := Lib.hid (fun W => lRef8 [r0, r1, r2, r3, r4, r5, r6, r7] pc hx W)
    generalize runL (self % 64) c.l 256 [r0, r1, r2, r3, r4, r5, r6, r7] pc [] = RR at *
    obtain ⟨X, P, ms, D, E⟩ := RR
    simp only at HE
    have H1 := Lib.hid (fun W => lRef8 X P HE W)
    have heq := Lib.hid (fun W => run_eqR X P HE.1 W)
    obtain ⟨s0, s1, s2, s3, s4, s5, s6, s7, hsx⟩ := eight_cons HE.1
    subst hsx
    unfold Ran at HRun
    unfold RanR at HRR
    unfold cv rv at *
    simp only [corC, rorC, List.map_cons, List.map_nil, List.cons_append, List.nil_append] at *
    have hse : self.tmod 64 = self % 64 := Int.tmod_eq_emod_of_nonneg hs.1
    clear hok hx HE
    go_upto_region 4 with fail
    go_wp2_with fail
    refine (HRun.out _ _ (HPV.out _ b0)).mono ?_
    rintro e z2 ⟨m, rfl, hm, hy⟩
    replace q0 := q0.below hy
    replace q1 : Bk z2 _ _ _ := (hy.block _ q1.lt).trans q1
    replace b0 := b0.trans (hy.mono b0.size)
    clear hy HRun c0 c1 c2 c3 c4 c5 c6 c7 c8 k0 k1 k2
    go_upto_region 5 with fail
    have q3 : Cb (z2.alloc (.cells #[.int .u32 s0, .int .u32 s1, .int .u32 s2, .int .u32 s3, .int .u32 s4, .int .u32 s5, .int .u32 s6, .int .u32 s7, .int .i64 P] 25)) z2.heap.size [s0, s1, s2, s3, s4, s5, s6, s7] P := Cb.made z2 [s0, s1, s2, s3, s4, s5, s6, s7] P
    replace hm := hm.alloc (.cells #[.int .u32 s0, .int .u32 s1, .int .u32 s2, .int .u32 s3, .int .u32 s4, .int .u32 s5, .int .u32 s6, .int .u32 s7, .int .i64 P] 25)
    replace q0 : Cb (z2.alloc (.cells #[.int .u32 s0, .int .u32 s1, .int .u32 s2, .int .u32 s3, .int .u32 s4, .int .u32 s5, .int .u32 s6, .int .u32 s7, .int .i64 P] 25)) _ _ _ := Bk.alloc q0 _
    replace q1 := q1.alloc (.cells #[.int .u32 s0, .int .u32 s1, .int .u32 s2, .int .u32 s3, .int .u32 s4, .int .u32 s5, .int .u32 s6, .int .u32 s7, .int .i64 P] 25)
    replace b0 := b0.alloc (o := .cells #[.int .u32 s0, .int .u32 s1, .int .u32 s2, .int .u32 s3, .int .u32 s4, .int .u32 s5, .int .u32 s6, .int .u32 s7, .int .i64 P] 25) b0.size
    generalize z2.heap.size = q at *
    generalize z2.alloc (.cells #[.int .u32 s0, .int .u32 s1, .int .u32 s2, .int .u32 s3, .int .u32 s4, .int .u32 s5, .int .u32 s6, .int .u32 s7, .int .i64 P] 25) = z3 at *
    have HC : Hid (∀ W, Below z3.heap.size z3 W → Cb W w.heap.size _ _ ∧ Bk W (w.heap.size + 1) 41 #[.slice a c.l.length ca, .int .i64 c.lo, .int .i64 c.un]) := Lib.hid fun W hW => ⟨q0.below hW, (hW.block _ q1.lt).trans q1⟩
    refine wp_region_put 11 12 34 #[.int .i64 0, .int .i64 0, .int .i64 0, .int .i64 0, .int .i64 0, .int .i64 0, .int .i64 0, .int .i64 0, .int .i64 0] (fun W b => put9 W b (.int .i64 s0) (.int .i64 s1) (.int .i64 s2) (.int .i64 s3) (.int .i64 s4) (.int .i64 s5) (.int .i64 s6) (.int .i64 s7) (.int .i64 P)) (fun W b => Rb W b [s0, s1, s2, s3, s4, s5, s6, s7] P) (fun vs => { tmps := #[.agg #[.int .u32 r0, .int .u32 r1, .int .u32 r2, .int .u32 r3, .int .u32 r4, .int .u32 r5, .int .u32 r6, .int .u32 r7, .int .i64 pc], .agg #[.slice a c.l.length ca, .int .i64 c.lo, .int .i64 c.un], .int .u8 self, .pointer (some ⟨w.heap.size, 0, none⟩), .pointer (some ⟨w.heap.size + 1, 0, none⟩), undef, .bool false, .int .i64 (self % 64), .pointer (some ⟨q, 0, none⟩), m, .int .i64 D, .int .i64 E, vs 11, vs 13, vs 14, vs 15, .pointer (some ⟨w.heap.size + 1, 0, none⟩), .slice a c.l.length ca, .int .i64 (c.l.length : Int), .bool false, .bool false, .agg #[.slice a c.l.length ca, .int .i64 c.lo, .int .i64 c.un], v1, .bool true, .bool false, .bool false, undef, .int .u8 self, .int .i64 self, .int .i64 (self % 64), .tuple #[.agg #[.int .u32 s0, .int .u32 s1, .int .u32 s2, .int .u32 s3, .int .u32 s4, .int .u32 s5, .int .u32 s6, .int .u32 s7, .int .i64 P], m, .int .i64 D, .int .i64 E], .agg #[.int .u32 r0, .int .u32 r1, .int .u32 r2, .int .u32 r3, .int .u32 r4, .int .u32 r5, .int .u32 r6, .int .u32 r7, .int .i64 pc], .agg #[.slice a c.l.length ca, .int .i64 c.lo, .int .i64 c.un], .int .i64 (self % 64), .tuple #[.agg #[.int .u32 s0, .int .u32 s1, .int .u32 s2, .int .u32 s3, .int .u32 s4, .int .u32 s5, .int .u32 s6, .int .u32 s7, .int .i64 P], m, .int .i64 D, .int .i64 E], .agg #[.int .u32 s0, .int .u32 s1, .int .u32 s2, .int .u32 s3, .int .u32 s4, .int .u32 s5, .int .u32 s6, .int .u32 s7, .int .i64 P], m, .int .i64 D, .int .i64 E, vs 6, vs 0, vs 1, vs 2, vs 3, vs 4, vs 5, vs 7, vs 8, vs 9, vs 10, undef, undef, undef, undef, undef, undef, undef, undef, undef, undef, undef, undef, undef, undef, undef, undef, undef, undef, undef, undef, undef, undef], defers := [] }) (mixT [(3, fun v W => Pv W v c), (5, TupR (.agg #[.int .i64 s0, .int .i64 s1, .int .i64 s2, .int .i64 s3, .int .i64 s4, .int .i64 s5, .int .i64 s6, .int .i64 s7, .int .i64 P]) ms D E), (6, TupR (.agg #[.int .i64 s0, .int .i64 s1, .int .i64 s2, .int .i64 s3, .int .i64 s4, .int .i64 s5, .int .i64 s6, .int .i64 s7, .int .i64 P]) ms D E), (8, fun v W => Lst .i64 3 W v ms), (13, fun v W => Lst .i64 3 W v ms)] [.agg #[.int .u32 r0, .int .u32 r1, .int .u32 r2, .int .u32 r3, .int .u32 r4, .int .u32 r5, .int .u32 r6, .int .u32 r7, .int .i64 pc], .agg #[.int .i64 r0, .int .i64 r1, .int .i64 r2, .int .i64 r3, .int .i64 r4, .int .i64 r5, .int .i64 r6, .int .i64 r7, .int .i64 pc], .agg #[.slice a c.l.length ca, .int .i64 c.lo, .int .i64 c.un], undef, .int .i64 (self % 64), undef, undef, .agg #[.int .i64 s0, .int .i64 s1, .int .i64 s2, .int .i64 s3, .int .i64 s4, .int .i64 s5, .int .i64 s6, .int .i64 s7, .int .i64 P], undef, .int .i64 D, .int .i64 E, undef, undef, undef, .int .i64 D, .int .i64 E]) ?ghm ?ghr ?ghns ?ghlen ?glit ?gst ?gst2 ?gd1 ?gbel ?gdn ?gnew ?gsto ?gops ?gdone
    case ghm => kernel_rfl
    case ghr => kernel_rfl
    case ghns => kernel_rfl
    case ghlen => rfl
    case glit => intro vs; rfl
    case gst => exact mixT_stable (by
      intro p hp
      simp only [List.mem_cons, List.not_mem_nil, or_false] at hp
      rcases hp with rfl | rfl | rfl | rfl | rfl
      · exact fun v W W2 h hb => Pv.below h hb
      · exact fun v W W2 h hb => h.below hb
      · exact fun v W W2 h hb => h.below hb
      · exact fun v W W2 h hb => lst_below h hb
      · exact fun v W W2 h hb => lst_below h hb)
    case gst2 =>
      have hk := mixT_keep (R := fun W W2 => ∃ b, Rb W b [0, 0, 0, 0, 0, 0, 0, 0] 0 ∧ W2 = put9 W b (.int .i64 s0) (.int .i64 s1) (.int .i64 s2) (.int .i64 s3) (.int .i64 s4) (.int .i64 s5) (.int .i64 s6) (.int .i64 s7) (.int .i64 P)) (ps := [(3, fun v W => Pv W v c), (5, TupR (.agg #[.int .i64 s0, .int .i64 s1, .int .i64 s2, .int .i64 s3, .int .i64 s4, .int .i64 s5, .int .i64 s6, .int .i64 s7, .int .i64 P]) ms D E), (6, TupR (.agg #[.int .i64 s0, .int .i64 s1, .int .i64 s2, .int .i64 s3, .int .i64 s4, .int .i64 s5, .int .i64 s6, .int .i64 s7, .int .i64 P]) ms D E), (8, fun v W => Lst .i64 3 W v ms), (13, fun v W => Lst .i64 3 W v ms)]) (l := [.agg #[.int .u32 r0, .int .u32 r1, .int .u32 r2, .int .u32 r3, .int .u32 r4, .int .u32 r5, .int .u32 r6, .int .u32 r7, .int .i64 pc], .agg #[.int .i64 r0, .int .i64 r1, .int .i64 r2, .int .i64 r3, .int .i64 r4, .int .i64 r5, .int .i64 r6, .int .i64 r7, .int .i64 pc], .agg #[.slice a c.l.length ca, .int .i64 c.lo, .int .i64 c.un], undef, .int .i64 (self % 64), undef, undef, .agg #[.int .i64 s0, .int .i64 s1, .int .i64 s2, .int .i64 s3, .int .i64 s4, .int .i64 s5, .int .i64 s6, .int .i64 s7, .int .i64 P], undef, .int .i64 D, .int .i64 E, undef, undef, undef, .int .i64 D, .int .i64 E]) (by
        intro p hp
        simp only [List.mem_cons, List.not_mem_nil, or_false] at hp
        rcases hp with rfl | rfl | rfl | rfl | rfl
        · rintro v W W2 h ⟨b, hk, rfl⟩; exact pv_put9 h hk (.int .i64 s0) (.int .i64 s1) (.int .i64 s2) (.int .i64 s3) (.int .i64 s4) (.int .i64 s5) (.int .i64 s6) (.int .i64 s7) (.int .i64 P)
        · rintro v W W2 ⟨m5, e5, h5⟩ ⟨b, hk, rfl⟩; exact ⟨m5, e5, lst_put9 h5 hk (by decide) (.int .i64 s0) (.int .i64 s1) (.int .i64 s2) (.int .i64 s3) (.int .i64 s4) (.int .i64 s5) (.int .i64 s6) (.int .i64 s7) (.int .i64 P)⟩
        · rintro v W W2 ⟨m5, e5, h5⟩ ⟨b, hk, rfl⟩; exact ⟨m5, e5, lst_put9 h5 hk (by decide) (.int .i64 s0) (.int .i64 s1) (.int .i64 s2) (.int .i64 s3) (.int .i64 s4) (.int .i64 s5) (.int .i64 s6) (.int .i64 s7) (.int .i64 P)⟩
        · rintro v W W2 h ⟨b, hk, rfl⟩; exact lst_put9 h hk (by decide) (.int .i64 s0) (.int .i64 s1) (.int .i64 s2) (.int .i64 s3) (.int .i64 s4) (.int .i64 s5) (.int .i64 s6) (.int .i64 s7) (.int .i64 P)
        · rintro v W W2 h ⟨b, hk, rfl⟩; exact lst_put9 h hk (by decide) (.int .i64 s0) (.int .i64 s1) (.int .i64 s2) (.int .i64 s3) (.int .i64 s4) (.int .i64 s5) (.int .i64 s6) (.int .i64 s7) (.int .i64 P))
      exact fun i v W b h hb => hk i v W _ h ⟨b, hb, rfl⟩
    case gd1 => exact fun W W2 b h hb => Rb.below h hb
    case gbel => exact fun W b hb h => put9_below h hb (.int .i64 s0) (.int .i64 s1) (.int .i64 s2) (.int .i64 s3) (.int .i64 s4) (.int .i64 s5) (.int .i64 s6) (.int .i64 s7) (.int .i64 P)
    case gdn => exact fun W b h => put9_bk h (.int .i64 s0) (.int .i64 s1) (.int .i64 s2) (.int .i64 s3) (.int .i64 s4) (.int .i64 s5) (.int .i64 s6) (.int .i64 s7) (.int .i64 P)
    case gnew =>
      intro o ho vs W hW
      injection ho with ho
      subst ho
      refine leaves_free rfl ?_
      go_simp
      exact ⟨⟨W.heap.size, rfl, hW.size, Rb.made W [0, 0, 0, 0, 0, 0, 0, 0] 0⟩, (Below.refl _ _).alloc (Nat.le_refl _) _⟩
    case gsto =>
      intro o ho vs W b hW hd hb hk
      injection ho with ho
      subst ho
      have ev : vs 7 = .agg #[.int .i64 s0, .int .i64 s1, .int .i64 s2, .int .i64 s3, .int .i64 s4, .int .i64 s5, .int .i64 s6, .int .i64 s7, .int .i64 P] := hd 7 (by decide) rfl
      have zf := Bk.free hk
      obtain ⟨z0, z1, z2, z3, z4, z5, z6, z7, z8⟩ := Rb.cells hk
      refine leavesIf_free rfl ?_
      clear hd
      go_simp
      rfl
    case gops =>
      refine ⟨?_, ?_, ?_, ?_, ?_, ?_, ?_, ?_, ?_, ?_, ?_, ?_, ?_, ?_, ?_, ?_, trivial⟩
      · intro _ vs W hW hd
        refine leaves_free rfl ?_
        obtain ⟨hq0, hq1⟩ := HC.out W hW; obtain ⟨c0, c1, c2, c3, c4, c5, c6, c7, c8⟩ := hq0.cells; obtain ⟨k0, k1, k2⟩ : W.cell? ⟨w.heap.size + 1, 0, none⟩ = some (.slice a c.l.length ca) ∧ W.cell? ⟨w.heap.size + 1, 1, none⟩ = some (.int .i64 c.lo) ∧ W.cell? ⟨w.heap.size + 1, 2, none⟩ = some (.int .i64 c.un) := ⟨hq1.cell 0, hq1.cell 1, hq1.cell 2⟩
        go_simp
        exact ⟨rfl, Below.refl _ _⟩
      · intro _ vs W hW hd
        refine leaves_free rfl ?_
        have e0 : vs 0 = .agg #[.int .u32 r0, .int .u32 r1, .int .u32 r2, .int .u32 r3, .int .u32 r4, .int .u32 r5, .int .u32 r6, .int .u32 r7, .int .i64 pc] := hd 0 (by decide) rfl
        have HS := Lib.hid (H2.out W)
        clear hd
        go_simp
        refine HS.out.mono ?_
        rintro e z ⟨he, hz⟩
        exact ⟨_, he, rfl, hz⟩
      · intro _ vs W hW hd
        refine leaves_free rfl ?_
        obtain ⟨hq0, hq1⟩ := HC.out W hW; obtain ⟨c0, c1, c2, c3, c4, c5, c6, c7, c8⟩ := hq0.cells; obtain ⟨k0, k1, k2⟩ : W.cell? ⟨w.heap.size + 1, 0, none⟩ = some (.slice a c.l.length ca) ∧ W.cell? ⟨w.heap.size + 1, 1, none⟩ = some (.int .i64 c.lo) ∧ W.cell? ⟨w.heap.size + 1, 2, none⟩ = some (.int .i64 c.un) := ⟨hq1.cell 0, hq1.cell 1, hq1.cell 2⟩
        go_simp
        exact ⟨rfl, Below.refl _ _⟩
      · intro _ vs W hW hd
        refine leaves_free rfl ?_
        have e2 : vs 2 = .agg #[.slice a c.l.length ca, .int .i64 c.lo, .int .i64 c.un] := hd 2 (by decide) rfl
        have HS := Lib.hid (HRF.out (by omega) W _ (HPV.out W (b0.trans (hW.mono b0.size))))
        clear hd
        go_simp
        refine HS.out.mono ?_
        rintro e z ⟨v', he, hv', hz⟩
        exact ⟨_, he, hv', hz⟩
      · intro _ vs W hW hd
        refine leaves_free rfl ?_
        go_simp
        exact ⟨rfl, Below.refl _ _⟩
      · intro _ vs W hW hd
        refine leaves_free rfl ?_
        have e1 : vs 1 = .agg #[.int .i64 r0, .int .i64 r1, .int .i64 r2, .int .i64 r3, .int .i64 r4, .int .i64 r5, .int .i64 r6, .int .i64 r7, .int .i64 pc] := hd 1 (by decide) rfl
        have e4 : vs 4 = .int .i64 (self % 64) := hd 4 (by decide) rfl
        have h3 : Pv W (vs 3) c := hd 3 (by decide) rfl
        have HS := Lib.hid (HRR.out W _ h3)
        clear hd h3
        go_simp
        refine HS.out.mono ?_
        rintro e z ⟨m5, he, hm5, hz⟩
        exact ⟨_, he, ⟨m5, rfl, hm5⟩, hz⟩
      · intro _ vs W hW hd
        refine leaves_free rfl ?_
        obtain ⟨m5, e5, hm5⟩ : TupR (.agg #[.int .i64 s0, .int .i64 s1, .int .i64 s2, .int .i64 s3, .int .i64 s4, .int .i64 s5, .int .i64 s6, .int .i64 s7, .int .i64 P]) ms D E (vs 5) W := hd 5 (by decide) rfl
        clear hd
        go_simp
        exact ⟨⟨m5, rfl, hm5⟩, Below.refl _ _⟩
      · intro _ vs W hW hd
        refine leaves_free rfl ?_
        obtain ⟨m5, e6, hm5⟩ : TupR (.agg #[.int .i64 s0, .int .i64 s1, .int .i64 s2, .int .i64 s3, .int .i64 s4, .int .i64 s5, .int .i64 s6, .int .i64 s7, .int .i64 P]) ms D E (vs 6) W := hd 6 (by decide) rfl
        clear hd
        go_simp
        exact ⟨rfl, Below.refl _ _⟩
      · intro _ vs W hW hd
        refine leaves_free rfl ?_
        obtain ⟨m5, e6, hm5⟩ : TupR (.agg #[.int .i64 s0, .int .i64 s1, .int .i64 s2, .int .i64 s3, .int .i64 s4, .int .i64 s5, .int .i64 s6, .int .i64 s7, .int .i64 P]) ms D E (vs 6) W := hd 6 (by decide) rfl
        clear hd
        go_simp
        exact ⟨hm5, Below.refl _ _⟩
      · intro _ vs W hW hd
        refine leaves_free rfl ?_
        obtain ⟨m5, e6, hm5⟩ : TupR (.agg #[.int .i64 s0, .int .i64 s1, .int .i64 s2, .int .i64 s3, .int .i64 s4, .int .i64 s5, .int .i64 s6, .int .i64 s7, .int .i64 P]) ms D E (vs 6) W := hd 6 (by decide) rfl
        clear hd
        go_simp
        exact ⟨rfl, Below.refl _ _⟩
      · intro _ vs W hW hd
        refine leaves_free rfl ?_
        obtain ⟨m5, e6, hm5⟩ : TupR (.agg #[.int .i64 s0, .int .i64 s1, .int .i64 s2, .int .i64 s3, .int .i64 s4, .int .i64 s5, .int .i64 s6, .int .i64 s7, .int .i64 P]) ms D E (vs 6) W := hd 6 (by decide) rfl
        clear hd
        go_simp
        exact ⟨rfl, Below.refl _ _⟩
      · exact fun h => absurd h (by decide)
      · exact fun h => absurd h (by decide)
      · intro _ vs W hW hd
        refine leaves_free rfl ?_
        have h8 : Lst .i64 3 W (vs 8) ms := hd 8 (by decide) rfl
        clear hd
        go_simp
        exact ⟨h8, Below.refl _ _⟩
      · intro _ vs W hW hd
        refine leaves_free rfl ?_
        have e9 : vs 9 = .int .i64 D := hd 9 (by decide) rfl
        go_simp
        exact ⟨rfl, Below.refl _ _⟩
      · intro _ vs W hW hd
        refine leaves_free rfl ?_
        have e10 : vs 10 = .int .i64 E := hd 10 (by decide) rfl
        go_simp
        exact ⟨rfl, Below.refl _ _⟩
    case gdone =>
      intro vs W b hW hf hgv hgb pb
      have f0 : vs 0 = .agg #[.int .u32 r0, .int .u32 r1, .int .u32 r2, .int .u32 r3, .int .u32 r4, .int .u32 r5, .int .u32 r6, .int .u32 r7, .int .i64 pc] := hf 0 (by decide) rfl
      have f1 : vs 1 = .agg #[.int .i64 r0, .int .i64 r1, .int .i64 r2, .int .i64 r3, .int .i64 r4, .int .i64 r5, .int .i64 r6, .int .i64 r7, .int .i64 pc] := hf 1 (by decide) rfl
      have f2 : vs 2 = .agg #[.slice a c.l.length ca, .int .i64 c.lo, .int .i64 c.un] := hf 2 (by decide) rfl
      have f4 : vs 4 = .int .i64 (self % 64) := hf 4 (by decide) rfl
      have f7 : vs 7 = .agg #[.int .i64 s0, .int .i64 s1, .int .i64 s2, .int .i64 s3, .int .i64 s4, .int .i64 s5, .int .i64 s6, .int .i64 s7, .int .i64 P] := hf 7 (by decide) rfl
      have f9 : vs 9 = .int .i64 D := hf 9 (by decide) rfl
      have f10 : vs 10 = .int .i64 E := hf 10 (by decide) rfl
      have f14 : vs 14 = .int .i64 D := hf 14 (by decide) rfl
      have f15 : vs 15 = .int .i64 E := hf 15 (by decide) rfl
      simp only [f0, f1, f2, f4, f7, f9, f10, f14, f15]
      have hm2 : Lst .i64 3 W (vs 13) ms := hf 13 (by decide) rfl
      simp only [hgv]
      clear hf hgv f0 f1 f2 f4 f7 f9 f10 f14 f15
      generalize vs 13 = m2 at *
      generalize vs 3 = w3 at *
      generalize vs 5 = w5 at *
      generalize vs 6 = w6 at *
      generalize vs 8 = w8 at *
      have p3 := q3.below hW
      have l1 := lst_below hm hW
      have bb := b0.trans (hW.mono b0.size)
      clear q0 q1 q3 b0 hW HC hm HRR HRF H2 HPV hgb
      go_upto_region 6 with fail
      obtain ⟨c0, c1, c2, c3, c4, c5, c6, c7, c8⟩ := p3.cells
      obtain ⟨d0, d1, d2, d3, d4, d5, d6, d7, d8⟩ := pb.cells
      have g0 := fun g : Grw W => g.cell c0
      have h0 := fun g : Grw W => g.cell d0
      have g1 := fun g : Grw W => g.cell c1
      have h1 := fun g : Grw W => g.cell d1
      have g2 := fun g : Grw W => g.cell c2
      have h2 := fun g : Grw W => g.cell d2
      have g3 := fun g : Grw W => g.cell c3
      have h3 := fun g : Grw W => g.cell d3
      have g4 := fun g : Grw W => g.cell c4
      have h4 := fun g : Grw W => g.cell d4
      have g5 := fun g : Grw W => g.cell c5
      have h5 := fun g : Grw W => g.cell d5
      have g6 := fun g : Grw W => g.cell c6
      have h6 := fun g : Grw W => g.cell d6
      have g7 := fun g : Grw W => g.cell c7
      have h7 := fun g : Grw W => g.cell d7
      have g8 := fun g : Grw W => g.cell c8
      have h8 := fun g : Grw W => g.cell d8
      have HI := Lib.hid (fun g : Grw W => (lInts m m2 ms g.x (lst_below l1 g.ok) (lst_below hm2 g.ok)).mono fun e y' ⟨he, n, hy⟩ => (show e = Ending.returned (.bool true) ∧ Below g.x.heap.size g.x y' from ⟨he, hy ▸ below_drewN (Below.refl _ _) n⟩))
      have heq2 := heq.out
      clear heq c0 c1 c2 c3 c4 c5 c6 c7 c8 d0 d1 d2 d3 d4 d5 d6 d7 d8 p3 pb l1 hm2
      refine wp_region_grow (by kernel_rfl) (by kernel_rfl) ?_
      repeat (go_big_quiet_step (first | (go_at_call 11; with_reducible exact grw_call (H1.out _)) | (go_at_call 18; with_reducible exact grw_call (HI.out _)) | (go_at_call 10; with_reducible exact grw_call (HA.out _))))
      refine wpQuiet_nil ?_
      rintro y ⟨⟨_, hy⟩, rfl⟩
      go_wp2
      go_ret
      exact ⟨rfl, bb.trans (hy.mono bb.size)⟩
set_option maxRecDepth 100000 in
theorem lifted (os : Os) (started : os.Started) (H : Type) (enc : TypeId × Value → H) :
    ReturnsInHanded {} Try.checked os 4 .any (Rows.coreRunsSpec.pre6 enc Try.prog Try.f4 Rows.coreRunsRow.domain false) (Rows.coreRunsSpec.post enc Try.prog Try.f4 false true false false) := by
  refine returnsInHanded_of_change (C := Try.checked) own started (by kernel_rfl) Try.func4
    (ChangeSpec.witness6 (enc := enc) (C := Try.checked) false ⟨#[], #[.agg #[.int .u32 0, .int .u32 0, .int .u32 0, .int .u32 0, .int .u32 0, .int .u32 0, .int .u32 0, .int .u32 0, .int .i64 0], .agg #[.slice none 0 0, .int .i64 0, .int .i64 0], .int .u8 0], []⟩ 8 (by kernel_rfl) (by kernel_rfl) (by kernel_rfl) (by kernel_rfl)) ?_
  intro W base args ds gs before hval0 hW hcnd _
  have hval : ∀ (j : Nat) t v, Try.f4.params[j]? = some t → args[j]? = some v → Value.okWide Try.prog W .any base t v := hval0
  have hW' := hW
  obtain ⟨p, q, hA0, hV, rfl, hfz, hnd⟩ := hW
  have hA : DataW.TrodAll enc Try.prog W 0 (fun _ => true) true Try.f4.params.toList args.toList ds p := hA0
  rw [Try.params4] at hA hval
  obtain ⟨v0, vs0, d0, ds0, p0, q0, hargs, rfl, rfl, h0, r0⟩ := trodAll_cons hA
  obtain ⟨v1, vs1, d1, ds1, p1, q1, rfl, rfl, rfl, h1, r1⟩ := trodAll_cons r0
  obtain ⟨v2, vs2, d2, ds2, p2, q2, rfl, rfl, rfl, h2, r2⟩ := trodAll_cons r1
  obtain ⟨rfl, rfl, rfl⟩ := trodAll_nil r2
  obtain rfl : args = #[v0, v1, v2] := by cases args; simp_all
  obtain ⟨rfl, rfl⟩ := trodVars_none hV
  have k0 := h0
  have lt0 : ∀ x ∈ p0, x.block < W.heap.size := by obtain ⟨m, hm⟩ := k0; exact DataW.trod_lt m _ _ _ hm
  obtain ⟨xs0, pc0, rfl, f0⟩ := open_core (hval 0 25 v0 rfl rfl) h0
  have k1 := h1
  have lt1 : ∀ x ∈ p1, x.block < W.heap.size := by obtain ⟨m, hm⟩ := k1; exact DataW.trod_lt m _ _ _ hm
  obtain ⟨c1, pv1, f1⟩ := open_code (hval 1 41 v1 rfl rfl) h1
  obtain ⟨x2, rfl, rfl, rfl, w2⟩ := open_int Try.underlying5 (hval 2 5 v2 rfl rfl) h2
  clear hA0 hval0
  refine (walk xs0 pc0 c1 v1 x2 W f0.1 f0.2 pv1 f1 (u8_bounds w2)).mono fun e W' ⟨he, bel⟩ => ?_
  subst he
  exact ⟨_, rfl, _, _, _, [], _, [], hW', trodAll_mk1 (shut_bool Try.underlying4 _), (trodAll_cons_mk (Below.trod laidOut (by kernel_rfl) (of_decide_eq_true (by kernel_rfl)) k0 bel lt0) (trodAll_cons_mk (Below.trod laidOut (by kernel_rfl) (of_decide_eq_true (by kernel_rfl)) k1 bel lt1) (trodAll_cons_mk (shut_int Try.underlying5 w2) trodAll_mk0))), rfl, bel.frame _, fun h => by cases h⟩

theorem over : Rows.coreRunsRow.holds Try.pinned (OpenSpec.ofChange Rows.coreRunsSpec) :=
  OpenClaim.holds_of_wide 4 Try.f4 rfl rfl rfl rfl rfl rfl rfl ⟨rfl, rfl, rfl, rfl, rfl⟩ rfl rfl rfl rfl rfl (by kernel_rfl) Try.func4 (by kernel_rfl)
    (of_decide_eq_true (by kernel_rfl)) (by unfold Func.isWrapper; first | (rw [if_pos (by decide +kernel)]; kernel_rfl) | (rw [if_neg (by decide +kernel)]; exact ⟨rfl, rfl⟩))
    (fun os started H enc _ => lifted os started H enc)

/-- The statement. -/
theorem proved : Rows.CoreRunsSaid := over
#print axioms proved
end Go.Proofs.Ytmjmedbepmdjcaa.coreRuns
