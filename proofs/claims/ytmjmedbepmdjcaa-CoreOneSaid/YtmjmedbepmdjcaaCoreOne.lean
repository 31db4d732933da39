/- For every core, every right instruction and every thread: CoreOne returns true, so core.One answers the document's core; no condition. -/
import Derived.Test.YtmjmedbepmdjcaaCoreW
import Derived.Test.YtmjmedbepmdjcaaRightP
import Derived.BigQuiet
namespace Go.Proofs.Ytmjmedbepmdjcaa.coreOne
open Go.ChangeShapes Go.WideShapes Go.ChangeAt Go.RowKit
set_option linter.unusedVariables false

set_option maxHeartbeats 2000000 in
set_option maxRecDepth 100000 in
theorem walk (xs : List Int) (pc : Int) (i : Ins) (self : Int) (w : World) (hx : Eight xs) (hp : -9223372036854775808 ≤ pc ∧ pc ≤ 9223372036854775807) (hi : i.Wf) (hs : 0 ≤ self ∧ self < 256) :
    Calls Try.prog 3 #[cv xs pc, iv i, .int .u8 self] w fun e w' => e = .returned (.bool true) ∧ Below w.heap.size w w' := by
  have H6 := Lib.hid (fun W => rRef i W)
  have HRt := Lib.hid (fun W => rRight i 1073741824 hi.k0 hi.k1 W)
  have HA := Lib.hid lAwake8
  have HOK : Hid (rightB i 1073741824 = true → OkI i) := Lib.hid fun h => ok_of h hi.k0 hi.k1
  have H2 := Lib.hid (fun W => lRef8 xs pc hx W)
  have HON := Lib.hid (fun (h : OkI i) (hq : pc ≤ 1099511627776) W => cOne xs pc i (self % 64) hx h (by omega) (by omega) hp.1 hq W)
  have HRO := Lib.hid (fun (h : OkI i) (hq : pc ≤ 1099511627776) W => rOne xs pc i (self % 64) hx h (by omega) (by omega) hp.1 hq W)
  have HE := Lib.hid (fun (h : OkI i) => hx.one (self := self % 64) h (by omega) (by omega))
  generalize rightB i 1073741824 = rb at *
  generalize oneR xs i (self % 64) = XN at *
  generalize oneP xs pc i = PN at *
  obtain ⟨op, d, s, t, u, a', k, pl⟩ := i
  obtain ⟨r0, r1, r2, r3, r4, r5, r6, r7, rfl⟩ := eight_cons hx.1
  have q0 : Cb ((w.alloc (.cells #[.int .u32 r0, .int .u32 r1, .int .u32 r2, .int .u32 r3, .int .u32 r4, .int .u32 r5, .int .u32 r6, .int .u32 r7, .int .i64 pc] 25)).alloc (.cells #[.int .i64 op, .int .i64 d, .int .i64 s, .int .i64 t, .int .i64 u, .int .i64 a', .int .u32 k, .int .i64 pl] 27)) w.heap.size [r0, r1, r2, r3, r4, r5, r6, r7] pc := (Cb.made w [r0, r1, r2, r3, r4, r5, r6, r7] pc).alloc (.cells #[.int .i64 op, .int .i64 d, .int .i64 s, .int .i64 t, .int .i64 u, .int .i64 a', .int .u32 k, .int .i64 pl] 27)
  have q1 : Ib ((w.alloc (.cells #[.int .u32 r0, .int .u32 r1, .int .u32 r2, .int .u32 r3, .int .u32 r4, .int .u32 r5, .int .u32 r6, .int .u32 r7, .int .i64 pc] 25)).alloc (.cells #[.int .i64 op, .int .i64 d, .int .i64 s, .int .i64 t, .int .i64 u, .int .i64 a', .int .u32 k, .int .i64 pl] 27)) (w.heap.size + 1) ⟨op, d, s, t, u, a', k, pl⟩ := by
    have := Ib.made (w.alloc (.cells #[.int .u32 r0, .int .u32 r1, .int .u32 r2, .int .u32 r3, .int .u32 r4, .int .u32 r5, .int .u32 r6, .int .u32 r7, .int .i64 pc] 25)) op d s t u a' k pl
    rw [World.size_alloc] at this
    exact this
  have b0 : Below w.heap.size w ((w.alloc (.cells #[.int .u32 r0, .int .u32 r1, .int .u32 r2, .int .u32 r3, .int .u32 r4, .int .u32 r5, .int .u32 r6, .int .u32 r7, .int .i64 pc] 25)).alloc (.cells #[.int .i64 op, .int .i64 d, .int .i64 s, .int .i64 t, .int .i64 u, .int .i64 a', .int .u32 k, .int .i64 pl] 27)) := ((Below.refl _ _).alloc (Nat.le_refl _) _).alloc (by simp) _
  clear hi
  unfold cv iv at *
  simp only [corC, List.map_cons, List.map_nil, List.cons_append, List.nil_append] at *
  go_enter Try.func3, Try.ntmps3
  go_upto_region 1 with fail
  generalize (w.alloc (.cells #[.int .u32 r0, .int .u32 r1, .int .u32 r2, .int .u32 r3, .int .u32 r4, .int .u32 r5, .int .u32 r6, .int .u32 r7, .int .i64 pc] 25)).alloc (.cells #[.int .i64 op, .int .i64 d, .int .i64 s, .int .i64 t, .int .i64 u, .int .i64 a', .int .u32 k, .int .i64 pl] 27) = x at *
  obtain ⟨c0, c1, c2, c3, c4, c5, c6, c7, c8⟩ := q0.cells
  obtain ⟨e0, e1, e2, e3, e4, e5, e6, e7⟩ := q1.cells
  simp only at e0 e1 e2 e3 e4 e5 e6 e7
  go_wp2_with fail
  refine (H6.out _).mono ?_
  rintro e y ⟨rfl, hy⟩
  replace q0 := q0.below hy
  replace q1 := q1.below hy
  replace b0 := b0.trans (hy.mono b0.size)
  clear c0 c1 c2 c3 c4 c5 c6 c7 c8 e0 e1 e2 e3 e4 e5 e6 e7 hy
  go_wp2_with fail
  refine (HRt.out _).mono ?_
  rintro e z ⟨rfl, hy⟩
  replace q0 := q0.below hy
  replace q1 := q1.below hy
  replace b0 := b0.trans (hy.mono b0.size)
  clear hy HRt
  obtain ⟨c0, c1, c2, c3, c4, c5, c6, c7, c8⟩ := q0.cells
  cases rb with
  | false =>
    clear HOK HON HRO HE H2 H6
    go_wp2_with fail
    refine (HA.out _).mono ?_
    rintro e y2 ⟨rfl, hy⟩
    go_wp2
    go_ret
    exact ⟨rfl, b0.trans (hy.mono b0.size)⟩
  | true =>
    have hok := HOK.out rfl
    by_cases hpc : pc > 1099511627776
    · clear HOK HON HRO HE H2 H6 hok
      go_wp2_with fail
      refine (HA.out _).mono ?_
      rintro e y2 ⟨rfl, hy⟩
      go_wp2
      go_ret
      exact ⟨rfl, b0.trans (hy.mono b0.size)⟩
    · have hpd : decide (pc > 1099511627776) = false := by simpa using hpc
      replace HON := Lib.hid (HON.out hok (by omega))
      replace HRO := Lib.hid (HRO.out hok (by omega))
      have hE := HE.out hok
      have H1 := Lib.hid (fun W => lRef8 XN PN hE W)
      have heq := Lib.hid (fun W => run_eqR XN PN hE.1 W)
      obtain ⟨s0, s1, s2, s3, s4, s5, s6, s7, rfl⟩ := eight_cons hE.1
      unfold rv cv at *
      simp only [rorC, corC, List.map_cons, List.map_nil, List.cons_append, List.nil_append] at *
      clear HOK HE hok hE hx
      have hse : self.tmod 64 = self % 64 := Int.tmod_eq_emod_of_nonneg hs.1
      go_upto_region 4 with fail
      have g0 := fun g : Grw z => g.cell c0
      have g1 := fun g : Grw z => g.cell c1
      have g2 := fun g : Grw z => g.cell c2
      have g3 := fun g : Grw z => g.cell c3
      have g4 := fun g : Grw z => g.cell c4
      have g5 := fun g : Grw z => g.cell c5
      have g6 := fun g : Grw z => g.cell c6
      have g7 := fun g : Grw z => g.cell c7
      have g8 := fun g : Grw z => g.cell c8
      obtain ⟨i0, i1, i2, i3, i4, i5, i6, i7⟩ := q1.grw
      simp only at i0 i1 i2 i3 i4 i5 i6 i7
      have heq2 := heq.out
      clear heq c0 c1 c2 c3 c4 c5 c6 c7 c8 q0 q1 hse
      refine wp_region_grow (by kernel_rfl) (by kernel_rfl) ?_
      repeat (go_big_quiet_step (first | (go_at_call 12; with_reducible exact grw_call (HON.out _)) | (go_at_call 11; first | (with_reducible exact grw_call (H1.out _)) | (with_reducible exact grw_call (H2.out _))) | (go_at_call 9; with_reducible exact grw_call (H6.out _)) | (go_at_call 13; with_reducible exact grw_call (HRO.out _)) | (go_at_call 10; with_reducible exact grw_call (HA.out _))))
      refine wpQuiet_nil ?_
      rintro y ⟨⟨_, hy⟩, rfl⟩
      go_wp2
      go_ret
      exact ⟨rfl, b0.trans (hy.mono b0.size)⟩
set_option maxRecDepth 100000 in
theorem lifted (os : Os) (started : os.Started) (H : Type) (enc : TypeId × Value → H) :
    ReturnsInHanded {} Try.checked os 3 .any (Rows.coreOneSpec.pre6 enc Try.prog Try.f3 Rows.coreOneRow.domain false) (Rows.coreOneSpec.post enc Try.prog Try.f3 false true false false) := by
  refine returnsInHanded_of_change (C := Try.checked) own started (by kernel_rfl) Try.func3
    (ChangeSpec.witness6 (enc := enc) (C := Try.checked) false ⟨#[], #[.agg #[.int .u32 0, .int .u32 0, .int .u32 0, .int .u32 0, .int .u32 0, .int .u32 0, .int .u32 0, .int .u32 0, .int .i64 0], .agg #[.int .i64 0, .int .i64 0, .int .i64 0, .int .i64 0, .int .i64 0, .int .i64 0, .int .u32 0, .int .i64 0], .int .u8 0], []⟩ 8 (by kernel_rfl) (by kernel_rfl) (by kernel_rfl) (by kernel_rfl)) ?_
  intro W base args ds gs before hval0 hW hcnd _
  have hval : ∀ (j : Nat) t v, Try.f3.params[j]? = some t → args[j]? = some v → Value.okWide Try.prog W .any base t v := hval0
  have hW' := hW
  obtain ⟨p, q, hA0, hV, rfl, hfz, hnd⟩ := hW
  have hA : DataW.TrodAll enc Try.prog W 0 (fun _ => true) true Try.f3.params.toList args.toList ds p := hA0
  rw [Try.params3] at hA hval
  obtain ⟨v0, vs0, d0, ds0, p0, q0, hargs, rfl, rfl, h0, r0⟩ := trodAll_cons hA
  obtain ⟨v1, vs1, d1, ds1, p1, q1, rfl, rfl, rfl, h1, r1⟩ := trodAll_cons r0
  obtain ⟨v2, vs2, d2, ds2, p2, q2, rfl, rfl, rfl, h2, r2⟩ := trodAll_cons r1
  obtain ⟨rfl, rfl, rfl⟩ := trodAll_nil r2
  obtain rfl : args = #[v0, v1, v2] := by cases args; simp_all
  obtain ⟨rfl, rfl⟩ := trodVars_none hV
  have k0 := h0
  have lt0 : ∀ x ∈ p0, x.block < W.heap.size := by obtain ⟨m, hm⟩ := k0; exact DataW.trod_lt m _ _ _ hm
  obtain ⟨xs0, pc0, rfl, f0⟩ := open_core (hval 0 25 v0 rfl rfl) h0
  have k1 := h1
  have lt1 : ∀ x ∈ p1, x.block < W.heap.size := by obtain ⟨m, hm⟩ := k1; exact DataW.trod_lt m _ _ _ hm
  obtain ⟨i1, rfl, f1⟩ := open_inst (hval 1 27 v1 rfl rfl) h1
  obtain ⟨x2, rfl, rfl, rfl, w2⟩ := open_int Try.underlying5 (hval 2 5 v2 rfl rfl) h2
  clear hA0 hval0
  refine (walk xs0 pc0 i1 x2 W f0.1 f0.2 f1 (u8_bounds w2)).mono fun e W' ⟨he, bel⟩ => ?_
  subst he
  exact ⟨_, rfl, _, _, _, [], _, [], hW', trodAll_mk1 (shut_bool Try.underlying4 _), (trodAll_cons_mk (Below.trod laidOut (by kernel_rfl) (of_decide_eq_true (by kernel_rfl)) k0 bel lt0) (trodAll_cons_mk (Below.trod laidOut (by kernel_rfl) (of_decide_eq_true (by kernel_rfl)) k1 bel lt1) (trodAll_cons_mk (shut_int Try.underlying5 w2) trodAll_mk0))), rfl, bel.frame _, fun h => by cases h⟩

theorem over : Rows.coreOneRow.holds Try.pinned (OpenSpec.ofChange Rows.coreOneSpec) :=
  OpenClaim.holds_of_wide 3 Try.f3 rfl rfl rfl rfl rfl rfl rfl ⟨rfl, rfl, rfl, rfl, rfl⟩ rfl rfl rfl rfl rfl (by kernel_rfl) Try.func3 (by kernel_rfl)
    (of_decide_eq_true (by kernel_rfl)) (by unfold Func.isWrapper; first | (rw [if_pos (by decide +kernel)]; kernel_rfl) | (rw [if_neg (by decide +kernel)]; exact ⟨rfl, rfl⟩))
    (fun os started H enc _ => lifted os started H enc)

/-- The statement. -/
theorem proved : Rows.CoreOneSaid := over
#print axioms proved
end Go.Proofs.Ytmjmedbepmdjcaa.coreOne
