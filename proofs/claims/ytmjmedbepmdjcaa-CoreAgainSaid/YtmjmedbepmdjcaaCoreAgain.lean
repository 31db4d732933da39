/- For every core and every right program: CoreAgain returns true, so where a core has stopped it stops again, at once, without a mark, but for one that had done too much; no condition. -/
import Derived.Test.YtmjmedbepmdjcaaCoreW
import Derived.Test.YtmjmedbepmdjcaaRightP
import Derived.Test.YtmjmedbepmdjcaaRefP
import Derived.BigQuiet
import Derived.Deep.DeepCutAuto
namespace Go.Proofs.Ytmjmedbepmdjcaa.coreAgain
open Go.ChangeShapes Go.WideShapes Go.ChangeAt Go.RowKit
set_option linter.unusedVariables false

set_option maxHeartbeats 4000000 in
set_option maxRecDepth 100000 in
theorem walk (xs : List Int) (pc : Int) (c : Prg) (v : Value) (w : World) (hx : Eight xs) (hp : -9223372036854775808 ≤ pc ∧ pc ≤ 9223372036854775807) (hv : Pv w v c) (hc : PrgWf c) :
    Calls Try.prog 6 #[cv xs pc, v] w fun e w' => e = .returned (.bool true) ∧ Below w.heap.size w w' := by
  have HA := Lib.hid lAwake8
  have HRF := Lib.hid (fun (h : c.l.length ≤ 1000) W v (hv : Pv W v c) => lRef c v W hv h)
  have HRP := Lib.hid (fun W v (hv : Pv W v c) => rRightP c v W hv hc.ins)
  have HOK : Hid (prgB c = true → ∀ i ∈ c.l, OkI i) := Lib.hid fun h i hi => by
    unfold prgB at h
    simp only [Bool.and_eq_true, List.all_eq_true] at h
    exact ok_of (h.2.2.2.2.2.2 i hi) (hc.ins i hi).k0 (hc.ins i hi).k1
  generalize hpb : prgB c = pb at *
  obtain ⟨a, ca, rfl, hc1, hc2, hcn, ha⟩ := hv
  obtain ⟨r0, r1, r2, r3, r4, r5, r6, r7, hxs⟩ := eight_cons hx.1
  subst hxs
  have q0 : Cb ((w.alloc (.cells #[.int .u32 r0, .int .u32 r1, .int .u32 r2, .int .u32 r3, .int .u32 r4, .int .u32 r5, .int .u32 r6, .int .u32 r7, .int .i64 pc] 25)).alloc (.cells #[.slice a c.l.length ca, .int .i64 c.lo, .int .i64 c.un] 41)) w.heap.size [r0, r1, r2, r3, r4, r5, r6, r7] pc := (Cb.made w [r0, r1, r2, r3, r4, r5, r6, r7] pc).alloc (.cells #[.slice a c.l.length ca, .int .i64 c.lo, .int .i64 c.un] 41)
  have q1 : Bk ((w.alloc (.cells #[.int .u32 r0, .int .u32 r1, .int .u32 r2, .int .u32 r3, .int .u32 r4, .int .u32 r5, .int .u32 r6, .int .u32 r7, .int .i64 pc] 25)).alloc (.cells #[.slice a c.l.length ca, .int .i64 c.lo, .int .i64 c.un] 41)) (w.heap.size + 1) 41 #[.slice a c.l.length ca, .int .i64 c.lo, .int .i64 c.un] := by
    have := Bk.made (w.alloc (.cells #[.int .u32 r0, .int .u32 r1, .int .u32 r2, .int .u32 r3, .int .u32 r4, .int .u32 r5, .int .u32 r6, .int .u32 r7, .int .i64 pc] 25)) 41 #[.slice a c.l.length ca, .int .i64 c.lo, .int .i64 c.un]
    rw [World.size_alloc] at this
    exact this
  have b0 : Below w.heap.size w ((w.alloc (.cells #[.int .u32 r0, .int .u32 r1, .int .u32 r2, .int .u32 r3, .int .u32 r4, .int .u32 r5, .int .u32 r6, .int .u32 r7, .int .i64 pc] 25)).alloc (.cells #[.slice a c.l.length ca, .int .i64 c.lo, .int .i64 c.un] 41)) := ((Below.refl _ _).alloc (Nat.le_refl _) _).alloc (by simp) _
  have HPV : Hid (∀ W, Below w.heap.size w W → Pv W (.agg #[.slice a c.l.length ca, .int .i64 c.lo, .int .i64 c.un]) c) := Lib.hid fun W hW => ⟨a, ca, rfl, hc1, hc2, hcn, ha.below hW⟩
  unfold cv at *
  simp only [corC, List.map_cons, List.map_nil, List.cons_append, List.nil_append] at *
  go_enter Try.func6, Try.ntmps6
  go_upto_region 1 with fail
  generalize (w.alloc (.cells #[.int .u32 r0, .int .u32 r1, .int .u32 r2, .int .u32 r3, .int .u32 r4, .int .u32 r5, .int .u32 r6, .int .u32 r7, .int .i64 pc] 25)).alloc (.cells #[.slice a c.l.length ca, .int .i64 c.lo, .int .i64 c.un] 41) = x at *
  obtain ⟨k0, k1, k2⟩ : x.cell? ⟨w.heap.size + 1, 0, none⟩ = some (.slice a c.l.length ca) ∧ x.cell? ⟨w.heap.size + 1, 1, none⟩ = some (.int .i64 c.lo) ∧ x.cell? ⟨w.heap.size + 1, 2, none⟩ = some (.int .i64 c.un) := ⟨q1.cell 0, q1.cell 1, q1.cell 2⟩
  by_cases hlen : (c.l.length : Int) > 64
  · clear HOK HRP HRF HPV
    go_wp2_with fail
    refine (HA.out _).mono ?_
    rintro e y2 ⟨rfl, hy⟩
    go_wp2
    go_ret
    exact ⟨rfl, b0.trans (hy.mono b0.size)⟩
  have hl64 : c.l.length ≤ 64 := by omega
  have hld : decide ((c.l.length : Int) > 64) = false := by simpa using hlen
  go_wp2_with fail
  refine (HRF.out (by omega) _ _ (HPV.out _ b0)).mono ?_
  rintro e y ⟨v1, rfl, hv1, hy⟩
  replace q0 := q0.below hy
  replace q1 : Bk y _ _ _ := (hy.block _ q1.lt).trans q1
  replace b0 := b0.trans (hy.mono b0.size)
  clear k0 k1 k2 hy
  go_wp2_with fail
  refine (HRP.out _ _ hv1).mono ?_
  rintro e z ⟨rfl, hy⟩
  replace q0 := q0.below hy
  replace q1 : Bk z _ _ _ := (hy.block _ q1.lt).trans q1
  replace b0 := b0.trans (hy.mono b0.size)
  clear hy hv1 HRP
  cases pb with
  | false =>
    clear HOK HRF HPV
    go_wp2_with fail
    refine (HA.out _).mono ?_
    rintro e y2 ⟨rfl, hy⟩
    go_wp2
    go_ret
    exact ⟨rfl, b0.trans (hy.mono b0.size)⟩
  | true =>
    have hok := HOK.out rfl
    clear HOK
    obtain ⟨c0, c1, c2, c3, c4, c5, c6, c7, c8⟩ := q0.cells
    obtain ⟨k0, k1, k2⟩ : z.cell? ⟨w.heap.size + 1, 0, none⟩ = some (.slice a c.l.length ca) ∧ z.cell? ⟨w.heap.size + 1, 1, none⟩ = some (.int .i64 c.lo) ∧ z.cell? ⟨w.heap.size + 1, 2, none⟩ = some (.int .i64 c.un) := ⟨q1.cell 0, q1.cell 1, q1.cell 2⟩
    have HRun := Lib.hid (fun W v (hv : Pv W v c) => cRun c v [r0, r1, r2, r3, r4, r5, r6, r7] pc 3 W hv hl64 hok hx (by omega) (by omega))
    have HE := runL_eight hok (show (0 : Int) ≤ 3 by omega) (show (3 : Int) < 4294967296 by omega) 256 [r0, r1, r2, r3, r4, r5, r6, r7] pc [] hx
    have HC := runL_e 3 c.l 256 [r0, r1, r2, r3, r4, r5, r6, r7] pc []
    have HG := fun h => runL_again 3 c.l 256 [r0, r1, r2, r3, r4, r5, r6, r7] pc [] h 255
    generalize runL 3 c.l 256 [r0, r1, r2, r3, r4, r5, r6, r7] pc [] = RR at *
    obtain ⟨X, P, ms, D, E⟩ := RR
    simp only at HE HC HG
    have HRun2 : Hid (E = 0 → ∀ W v, Pv W v c → Calls Try.prog 16 #[cv X P, v, .int .i64 3] W (Ran W ⟨X, P, [], D, 0⟩)) := Lib.hid fun h W v hv => by
      have := cRun c v X P 3 W hv hl64 hok HE (by omega) (by omega)
      rw [HG h] at this
      exact this
    have heq := Lib.hid (fun W => run_eqC X P HE.1 W)
    obtain ⟨s0, s1, s2, s3, s4, s5, s6, s7, hsx⟩ := eight_cons HE.1
    subst hsx
    unfold Ran at HRun HRun2
    unfold cv at *
    simp only [corC, List.map_cons, List.map_nil, List.cons_append, List.nil_append] at *
    have HC2 := Lib.hid HC
    clear hok hx HE HC HG HRF
    go_upto_region 3 with fail
    go_wp2_with fail
    refine (HRun.out _ _ (HPV.out _ b0)).mono ?_
    rintro e z2 ⟨m, rfl, hm, hy⟩
    replace q0 := q0.below hy
    replace q1 : Bk z2 _ _ _ := (hy.block _ q1.lt).trans q1
    replace b0 := b0.trans (hy.mono b0.size)
    clear hy HRun c0 c1 c2 c3 c4 c5 c6 c7 c8 k0 k1 k2
    go_upto_region 4 with fail
    have q3 : Cb (z2.alloc (.cells #[.int .u32 s0, .int .u32 s1, .int .u32 s2, .int .u32 s3, .int .u32 s4, .int .u32 s5, .int .u32 s6, .int .u32 s7, .int .i64 P] 25)) z2.heap.size [s0, s1, s2, s3, s4, s5, s6, s7] P := Cb.made z2 [s0, s1, s2, s3, s4, s5, s6, s7] P
    replace q1 := q1.alloc (.cells #[.int .u32 s0, .int .u32 s1, .int .u32 s2, .int .u32 s3, .int .u32 s4, .int .u32 s5, .int .u32 s6, .int .u32 s7, .int .i64 P] 25)
    replace b0 := b0.alloc (o := .cells #[.int .u32 s0, .int .u32 s1, .int .u32 s2, .int .u32 s3, .int .u32 s4, .int .u32 s5, .int .u32 s6, .int .u32 s7, .int .i64 P] 25) b0.size
    clear q0 hm
    generalize z2.heap.size = q at *
    generalize z2.alloc (.cells #[.int .u32 s0, .int .u32 s1, .int .u32 s2, .int .u32 s3, .int .u32 s4, .int .u32 s5, .int .u32 s6, .int .u32 s7, .int .i64 P] 25) = z3 at *
    by_cases hE : E = 0
    · subst hE
      have HR2 := Lib.hid (HRun2.out rfl)
      clear HC2 HRun2
      obtain ⟨c0, c1, c2, c3, c4, c5, c6, c7, c8⟩ := q3.cells
      obtain ⟨k0, k1, k2⟩ : z3.cell? ⟨w.heap.size + 1, 0, none⟩ = some (.slice a c.l.length ca) ∧ z3.cell? ⟨w.heap.size + 1, 1, none⟩ = some (.int .i64 c.lo) ∧ z3.cell? ⟨w.heap.size + 1, 2, none⟩ = some (.int .i64 c.un) := ⟨q1.cell 0, q1.cell 1, q1.cell 2⟩
      go_wp2_with fail
      refine (HR2.out _ _ (HPV.out _ b0)).mono ?_
      rintro e z4 ⟨m2, rfl, hm2, hy⟩
      obtain ⟨am, cm, rfl, _, _, _⟩ := hm2.is
      replace q3 := q3.below hy
      replace b0 := b0.trans (hy.mono b0.size)
      simp only [List.length_nil]
      clear hy hm2 HR2 HPV c0 c1 c2 c3 c4 c5 c6 c7 c8 k0 k1 k2 q1
      go_upto_region 7 with fail
      have q4 : Cb (z4.alloc (.cells #[.int .u32 s0, .int .u32 s1, .int .u32 s2, .int .u32 s3, .int .u32 s4, .int .u32 s5, .int .u32 s6, .int .u32 s7, .int .i64 P] 25)) z4.heap.size [s0, s1, s2, s3, s4, s5, s6, s7] P := Cb.made z4 [s0, s1, s2, s3, s4, s5, s6, s7] P
      replace q3 : Cb (z4.alloc (.cells #[.int .u32 s0, .int .u32 s1, .int .u32 s2, .int .u32 s3, .int .u32 s4, .int .u32 s5, .int .u32 s6, .int .u32 s7, .int .i64 P] 25)) _ _ _ := Bk.alloc q3 _
      replace b0 := b0.alloc (o := .cells #[.int .u32 s0, .int .u32 s1, .int .u32 s2, .int .u32 s3, .int .u32 s4, .int .u32 s5, .int .u32 s6, .int .u32 s7, .int .i64 P] 25) b0.size
      generalize z4.heap.size = q9 at *
      generalize z4.alloc (.cells #[.int .u32 s0, .int .u32 s1, .int .u32 s2, .int .u32 s3, .int .u32 s4, .int .u32 s5, .int .u32 s6, .int .u32 s7, .int .i64 P] 25) = z5 at *
      obtain ⟨c0, c1, c2, c3, c4, c5, c6, c7, c8⟩ := q3.cells
      obtain ⟨d0, d1, d2, d3, d4, d5, d6, d7, d8⟩ := q4.cells
      have heq2 := heq.out
      clear heq
      go_wp2_with fail
      refine (HA.out _).mono ?_
      rintro e y2 ⟨rfl, hy⟩
      go_wp2
      go_ret
      exact ⟨rfl, b0.trans (hy.mono b0.size)⟩
    · obtain ⟨rfl, rfl⟩ : E = 11 ∧ D = -1 := by
        rcases HC2.out with h | h
        · exact absurd h hE
        · exact h
      clear HC2 hE HRun2 heq HPV
      go_wp2_with fail
      refine (HA.out _).mono ?_
      rintro e y2 ⟨rfl, hy⟩
      go_wp2
      go_ret
      exact ⟨rfl, b0.trans (hy.mono b0.size)⟩
set_option maxRecDepth 100000 in
theorem lifted (os : Os) (started : os.Started) (H : Type) (enc : TypeId × Value → H) :
    ReturnsInHanded {} Try.checked os 6 .any (Rows.coreAgainSpec.pre6 enc Try.prog Try.f6 Rows.coreAgainRow.domain false) (Rows.coreAgainSpec.post enc Try.prog Try.f6 false true false false) := by
  refine returnsInHanded_of_change (C := Try.checked) own started (by kernel_rfl) Try.func6
    (ChangeSpec.witness6 (enc := enc) (C := Try.checked) false ⟨#[], #[.agg #[.int .u32 0, .int .u32 0, .int .u32 0, .int .u32 0, .int .u32 0, .int .u32 0, .int .u32 0, .int .u32 0, .int .i64 0], .agg #[.slice none 0 0, .int .i64 0, .int .i64 0]], []⟩ 8 (by kernel_rfl) (by kernel_rfl) (by kernel_rfl) (by kernel_rfl)) ?_
  intro W base args ds gs before hval0 hW hcnd _
  have hval : ∀ (j : Nat) t v, Try.f6.params[j]? = some t → args[j]? = some v → Value.okWide Try.prog W .any base t v := hval0
  have hW' := hW
  obtain ⟨p, q, hA0, hV, rfl, hfz, hnd⟩ := hW
  have hA : DataW.TrodAll enc Try.prog W 0 (fun _ => true) true Try.f6.params.toList args.toList ds p := hA0
  rw [Try.params6] at hA hval
  obtain ⟨v0, vs0, d0, ds0, p0, q0, hargs, rfl, rfl, h0, r0⟩ := trodAll_cons hA
  obtain ⟨v1, vs1, d1, ds1, p1, q1, rfl, rfl, rfl, h1, r1⟩ := trodAll_cons r0
  obtain ⟨rfl, rfl, rfl⟩ := trodAll_nil r1
  obtain rfl : args = #[v0, v1] := by cases args; simp_all
  obtain ⟨rfl, rfl⟩ := trodVars_none hV
  have k0 := h0
  have lt0 : ∀ x ∈ p0, x.block < W.heap.size := by obtain ⟨m, hm⟩ := k0; exact DataW.trod_lt m _ _ _ hm
  obtain ⟨xs0, pc0, rfl, f0⟩ := open_core (hval 0 25 v0 rfl rfl) h0
  have k1 := h1
  have lt1 : ∀ x ∈ p1, x.block < W.heap.size := by obtain ⟨m, hm⟩ := k1; exact DataW.trod_lt m _ _ _ hm
  obtain ⟨c1, pv1, f1⟩ := open_code (hval 1 41 v1 rfl rfl) h1
  clear hA0 hval0
  refine (walk xs0 pc0 c1 v1 W f0.1 f0.2 pv1 f1).mono fun e W' ⟨he, bel⟩ => ?_
  subst he
  exact ⟨_, rfl, _, _, _, [], _, [], hW', trodAll_mk1 (shut_bool Try.underlying4 _), (trodAll_cons_mk (Below.trod laidOut (by kernel_rfl) (of_decide_eq_true (by kernel_rfl)) k0 bel lt0) (trodAll_cons_mk (Below.trod laidOut (by kernel_rfl) (of_decide_eq_true (by kernel_rfl)) k1 bel lt1) trodAll_mk0)), rfl, bel.frame _, fun h => by cases h⟩

theorem over : Rows.coreAgainRow.holds Try.pinned (OpenSpec.ofChange Rows.coreAgainSpec) :=
  OpenClaim.holds_of_wide 6 Try.f6 rfl rfl rfl rfl rfl rfl rfl ⟨rfl, rfl, rfl, rfl, rfl⟩ rfl rfl rfl rfl rfl (by kernel_rfl) Try.func6 (by kernel_rfl)
    (of_decide_eq_true (by kernel_rfl)) (by unfold Func.isWrapper; first | (rw [if_pos (by decide +kernel)]; kernel_rfl) | (rw [if_neg (by decide +kernel)]; exact ⟨rfl, rfl⟩))
    (fun os started H enc _ => lifted os started H enc)

/-- The statement. -/
theorem proved : Rows.CoreAgainSaid := over
#print axioms proved
end Go.Proofs.Ytmjmedbepmdjcaa.coreAgain
