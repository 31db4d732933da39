/- A core that came in by value, opened; Begin; equality of cores; ints; awake. -/
import Derived.Test.YtpinpipjlongaaaCoreU
import Derived.Test.YtpinpipjlongaaaCoreV
import Derived.Test.YtpinpipjlongaaaOpn
import Derived.Test.YtpinpipjlongaaaGrow
import Derived.Test.YtpinpipjlongaaaHold
import Derived.ChangeArms
import Derived.DataReads
namespace Go.Proofs.Ytpinpipjlongaaa
set_option maxRecDepth 100000
open Go.Joins Go.ChangeShapes Go.WideShapes Go.ChangeAt Go.RowKit Go.Deep
set_option linter.unusedVariables false

theorem u8_bounds {n : Int} (h : (Lit.int .u8 n).wf = true) : 0 ≤ n ∧ n < 256 := by
  simp [Lit.wf, IntKind.min, IntKind.max, IntKind.bits, IntKind.signed] at h; omega
theorem own : ownKnob Try.prog.godebug = none := by kernel_rfl
theorem laidOut : laidOutB Try.prog = true := by kernel_rfl

section
variable {H : Type} {enc : TypeId × Value → H} {P : Program} {w : World} {base : Nat} {spare : Nat → Bool} {held : Bool}
/-- An array of one-cell elements: each one's reading. -/
theorem trod_arr {t e : TypeId} {fuel n : Nat} {cs : List Value} {x : DataW H × List MemPlace} (ht : P.underlying t = some (.array n e)) (hce : P.cellsOf e = 1)
    (h : DataW.trod enc P w base spare held fuel t cs = some x) : ∀ i, i < n → ∃ m y, DataW.trod enc P w base spare held m e ((cs.drop i).take 1) = some y := by
  cases fuel with
  | zero => simp [DataW.trod] at h
  | succ m =>
    unfold DataW.trod at h
    rw [ht] at h
    simp [hce] at h
    obtain ⟨_, a, ha, _⟩ := h
    intro i hi
    have := mapM_some_get ha i i (by simp [hi])
    have hl := mapM_some_length ha
    simp at hl
    exact ⟨m, a[i]'(by omega), by rw [this, List.getElem?_eq_getElem]⟩
end

set_option maxRecDepth 100000 in
/-- A core that came in. -/
theorem open_core {H : Type} {enc : TypeId × Value → H} {w : World} {base : Nat} {spare : Nat → Bool} {held : Bool} {r : Reach} {b0 : Nat} {v : Value} {d : DataW H} {p : List MemPlace}
    (hv : Value.okWide Try.prog w r b0 52 v) (h : DataW.Trod enc Try.prog w base spare held 52 v d p) : ∃ xs pc, v = cv xs pc ∧ Eight xs ∧ -9223372036854775808 ≤ pc ∧ pc ≤ 9223372036854775807 := by
  obtain ⟨cs, rfl, hsz⟩ := okWide_struct Try.underlying52 hv
  obtain ⟨l⟩ := cs
  have hC : Try.prog.cellsOf 52 = 9 := by kernel_rfl
  have hA : Try.prog.cellsOf 50 = 8 := by kernel_rfl
  have hI : Try.prog.cellsOf 3 = 1 := by kernel_rfl
  have hU : Try.prog.cellsOf 49 = 1 := by kernel_rfl
  match l, hsz.trans hC with
  | [c0, c1, c2, c3, c4, c5, c6, c7, c8], _ =>
    obtain ⟨fuel, hf⟩ := h
    obtain ⟨xs, n, _, hx, _, hlen, hg⟩ := DataW.trod_struct Try.underlying52 hf
    match xs, hlen with
    | [ya, yp], _ =>
      have ga := hg 0 _ rfl
      have gp := hg 1 _ rfl
      simp [hA, hI, Value.cells] at ga gp
      have hel := trod_arr Try.underlying50 hU ga
      obtain ⟨m0, y0, h0⟩ := hel 0 (by decide)
      simp only [List.drop_zero, List.take_succ_cons, List.take_zero] at h0
      obtain ⟨x0, e0, _, w0⟩ := DataW.trod_int Try.underlying49 h0
      simp only [List.cons.injEq, and_true] at e0
      subst e0
      obtain ⟨m1, y1, h1⟩ := hel 1 (by decide)
      simp only [List.drop_succ_cons, List.drop_zero, List.take_succ_cons, List.take_zero] at h1
      obtain ⟨x1, e1, _, w1⟩ := DataW.trod_int Try.underlying49 h1
      simp only [List.cons.injEq, and_true] at e1
      subst e1
      obtain ⟨m2, y2, h2⟩ := hel 2 (by decide)
      simp only [List.drop_succ_cons, List.drop_zero, List.take_succ_cons, List.take_zero] at h2
      obtain ⟨x2, e2, _, w2⟩ := DataW.trod_int Try.underlying49 h2
      simp only [List.cons.injEq, and_true] at e2
      subst e2
      obtain ⟨m3, y3, h3⟩ := hel 3 (by decide)
      simp only [List.drop_succ_cons, List.drop_zero, List.take_succ_cons, List.take_zero] at h3
      obtain ⟨x3, e3, _, w3⟩ := DataW.trod_int Try.underlying49 h3
      simp only [List.cons.injEq, and_true] at e3
      subst e3
      obtain ⟨m4, y4, h4⟩ := hel 4 (by decide)
      simp only [List.drop_succ_cons, List.drop_zero, List.take_succ_cons, List.take_zero] at h4
      obtain ⟨x4, e4, _, w4⟩ := DataW.trod_int Try.underlying49 h4
      simp only [List.cons.injEq, and_true] at e4
      subst e4
      obtain ⟨m5, y5, h5⟩ := hel 5 (by decide)
      simp only [List.drop_succ_cons, List.drop_zero, List.take_succ_cons, List.take_zero] at h5
      obtain ⟨x5, e5, _, w5⟩ := DataW.trod_int Try.underlying49 h5
      simp only [List.cons.injEq, and_true] at e5
      subst e5
      obtain ⟨m6, y6, h6⟩ := hel 6 (by decide)
      simp only [List.drop_succ_cons, List.drop_zero, List.take_succ_cons, List.take_zero] at h6
      obtain ⟨x6, e6, _, w6⟩ := DataW.trod_int Try.underlying49 h6
      simp only [List.cons.injEq, and_true] at e6
      subst e6
      obtain ⟨m7, y7, h7⟩ := hel 7 (by decide)
      simp only [List.drop_succ_cons, List.drop_zero, List.take_succ_cons, List.take_zero] at h7
      obtain ⟨x7, e7, _, w7⟩ := DataW.trod_int Try.underlying49 h7
      simp only [List.cons.injEq, and_true] at e7
      subst e7
      obtain ⟨pc, ep, _, wp⟩ := DataW.trod_int Try.underlying3 gp
      simp only [List.cons.injEq, and_true] at ep
      subst ep
      obtain ⟨q0, q1⟩ := i64_fits wp
      exact ⟨[x0, x1, x2, x3, x4, x5, x6, x7], pc, rfl, ⟨rfl, by
        intro x hx
        simp only [List.mem_cons, List.not_mem_nil, or_false] at hx
        rcases hx with rfl | rfl | rfl | rfl | rfl | rfl | rfl | rfl <;> exact u32_bounds (by assumption)⟩, q0, q1⟩

theorem same1_i64 (a : Int) (d : Nat) (w : World) : (Op.equalIn (d + 1) 3 (.int .i64 a) (.int .i64 a)).run Try.prog w = .ok true w := by
  simp [Op.equalIn, run_underlying Try.underlying3]
theorem same1_u32 (a : Int) (d : Nat) (w : World) : (Op.equalIn (d + 1) 49 (.int .u32 a) (.int .u32 a)).run Try.prog w = .ok true w := by
  simp [Op.equalIn, run_underlying Try.underlying49]
theorem intInfo8 : (Try.prog.info? 3).isSome = true := by kernel_rfl
theorem wordInfo8 : (Try.prog.info? 49).isSome = true := by kernel_rfl
theorem same8_u32 (x0 x1 x2 x3 x4 x5 x6 x7 : Int) (d : Nat) (w : World) : (Op.equalIn (d + 1 + 1) 50 (.agg #[.int .u32 x0, .int .u32 x1, .int .u32 x2, .int .u32 x3, .int .u32 x4, .int .u32 x5, .int .u32 x6, .int .u32 x7]) (.agg #[.int .u32 x0, .int .u32 x1, .int .u32 x2, .int .u32 x3, .int .u32 x4, .int .u32 x5, .int .u32 x6, .int .u32 x7])).run Try.prog w = .ok true w := by
  obtain ⟨i, hi⟩ := Option.isSome_iff_exists.1 wordInfo8
  have hc : Try.prog.cellsOf 49 = 1 := by kernel_rfl
  rw [run_equalIn_array w (d + 1) _ _ Try.underlying50 hi, hc, show List.range 8 = [0, 1, 2, 3, 4, 5, 6, 7] from rfl]
  simp [Op.eqItems, part, same1_u32]
/-- A core is itself. -/
theorem run_eqC (xs : List Int) (p : Int) (hx : xs.length = 8) (w : World) : (binOp .eql 52 (cv xs p) (cv xs p)).run Try.prog w = .ok (.bool true) w := by
  obtain ⟨x0, x1, x2, x3, x4, x5, x6, x7, rfl⟩ := eight_cons hx
  unfold cv
  simp only [corC, List.map_cons, List.map_nil, List.cons_append, List.nil_append]
  have hu := Try.underlying52
  have hs := fun W => same8_u32 x0 x1 x2 x3 x4 x5 x6 x7 9997 W
  simp only [Nat.reduceAdd] at hs
  go_simp

set_option maxHeartbeats 2000000 in
theorem cBegin (c : Prg) (v : Value) (xs : List Int) (pc : Int) (self : Int) (unl : Bool) (w : World) (hv : Pv w v c) (hl : c.l.length ≤ 64) (hi : ∀ i ∈ c.l, OkI i) (hx : Eight xs) (h0 : 0 ≤ self) (h1 : self < 4294967296) :
    Calls Try.prog 22 #[cv xs pc, v, .int .i64 self, .bool unl] w (Ran w (runL self c.l 256 xs (if unl then c.un else c.lo) [])) := by
  have HE := Lib.hid (runL_eight hi h0 h1 256 xs (if unl then c.un else c.lo) [] hx)
  obtain ⟨RR, hRR⟩ : ∃ R, R = runL self c.l 256 xs (if unl then c.un else c.lo) [] := ⟨_, rfl⟩
  have HRun : Hid (∀ W v, Pv W v c → Calls Try.prog 26 #[cv xs (if unl then c.un else c.lo), v, .int .i64 self] W (Ran W RR)) := Lib.hid fun W v h => by rw [hRR]; exact cRun c v xs _ self W h hl hi hx h0 h1
  rw [← hRR] at HE ⊢
  clear hRR
  obtain ⟨a, ca, rfl, hc1, hc2, hcn, ha⟩ := hv
  obtain ⟨r0, r1, r2, r3, r4, r5, r6, r7, rfl⟩ := eight_cons hx.1
  have q0 : Cb (((w.alloc (.cells #[.int .u32 r0, .int .u32 r1, .int .u32 r2, .int .u32 r3, .int .u32 r4, .int .u32 r5, .int .u32 r6, .int .u32 r7, .int .i64 pc] 52)).alloc (.cells #[.slice a c.l.length ca, .int .i64 c.lo, .int .i64 c.un] 24)).alloc (.cells #[.int .u32 0, .int .u32 0, .int .u32 0, .int .u32 0, .int .u32 0, .int .u32 0, .int .u32 0, .int .u32 0, .int .i64 0] 52)) w.heap.size [r0, r1, r2, r3, r4, r5, r6, r7] pc := ((Cb.made w [r0, r1, r2, r3, r4, r5, r6, r7] pc).alloc (.cells #[.slice a c.l.length ca, .int .i64 c.lo, .int .i64 c.un] 24)).alloc (.cells #[.int .u32 0, .int .u32 0, .int .u32 0, .int .u32 0, .int .u32 0, .int .u32 0, .int .u32 0, .int .u32 0, .int .i64 0] 52)
  have q1 : Bk (((w.alloc (.cells #[.int .u32 r0, .int .u32 r1, .int .u32 r2, .int .u32 r3, .int .u32 r4, .int .u32 r5, .int .u32 r6, .int .u32 r7, .int .i64 pc] 52)).alloc (.cells #[.slice a c.l.length ca, .int .i64 c.lo, .int .i64 c.un] 24)).alloc (.cells #[.int .u32 0, .int .u32 0, .int .u32 0, .int .u32 0, .int .u32 0, .int .u32 0, .int .u32 0, .int .u32 0, .int .i64 0] 52)) (w.heap.size + 1) 24 #[.slice a c.l.length ca, .int .i64 c.lo, .int .i64 c.un] := by
    have := Bk.alloc (Bk.made (w.alloc (.cells #[.int .u32 r0, .int .u32 r1, .int .u32 r2, .int .u32 r3, .int .u32 r4, .int .u32 r5, .int .u32 r6, .int .u32 r7, .int .i64 pc] 52)) 24 #[.slice a c.l.length ca, .int .i64 c.lo, .int .i64 c.un]) (.cells #[.int .u32 0, .int .u32 0, .int .u32 0, .int .u32 0, .int .u32 0, .int .u32 0, .int .u32 0, .int .u32 0, .int .i64 0] 52)
    rw [World.size_alloc] at this
    exact this
  have q2 : Cb (((w.alloc (.cells #[.int .u32 r0, .int .u32 r1, .int .u32 r2, .int .u32 r3, .int .u32 r4, .int .u32 r5, .int .u32 r6, .int .u32 r7, .int .i64 pc] 52)).alloc (.cells #[.slice a c.l.length ca, .int .i64 c.lo, .int .i64 c.un] 24)).alloc (.cells #[.int .u32 0, .int .u32 0, .int .u32 0, .int .u32 0, .int .u32 0, .int .u32 0, .int .u32 0, .int .u32 0, .int .i64 0] 52)) (w.heap.size + 1 + 1) [0, 0, 0, 0, 0, 0, 0, 0] 0 := by
    have := Cb.made ((w.alloc (.cells #[.int .u32 r0, .int .u32 r1, .int .u32 r2, .int .u32 r3, .int .u32 r4, .int .u32 r5, .int .u32 r6, .int .u32 r7, .int .i64 pc] 52)).alloc (.cells #[.slice a c.l.length ca, .int .i64 c.lo, .int .i64 c.un] 24)) [0, 0, 0, 0, 0, 0, 0, 0] 0
    rw [World.size_alloc, World.size_alloc] at this
    exact this
  have b0 : Below w.heap.size w (((w.alloc (.cells #[.int .u32 r0, .int .u32 r1, .int .u32 r2, .int .u32 r3, .int .u32 r4, .int .u32 r5, .int .u32 r6, .int .u32 r7, .int .i64 pc] 52)).alloc (.cells #[.slice a c.l.length ca, .int .i64 c.lo, .int .i64 c.un] 24)).alloc (.cells #[.int .u32 0, .int .u32 0, .int .u32 0, .int .u32 0, .int .u32 0, .int .u32 0, .int .u32 0, .int .u32 0, .int .i64 0] 52)) := (((Below.refl _ _).alloc (Nat.le_refl _) _).alloc (by simp) _).alloc (by simp; omega) _
  unfold Ran cv at *
  simp only [corC, List.map_cons, List.map_nil, List.cons_append, List.nil_append] at HRun ⊢
  go_enter Try.func22, Try.ntmps22
  go_upto_region 1 with fail
  generalize ((w.alloc (.cells #[.int .u32 r0, .int .u32 r1, .int .u32 r2, .int .u32 r3, .int .u32 r4, .int .u32 r5, .int .u32 r6, .int .u32 r7, .int .i64 pc] 52)).alloc (.cells #[.slice a c.l.length ca, .int .i64 c.lo, .int .i64 c.un] 24)).alloc (.cells #[.int .u32 0, .int .u32 0, .int .u32 0, .int .u32 0, .int .u32 0, .int .u32 0, .int .u32 0, .int .u32 0, .int .i64 0] 52) = x at *
  obtain ⟨c0, c1, c2, c3, c4, c5, c6, c7, c8⟩ := q0.cells
  obtain ⟨k0, k1, k2⟩ : x.cell? ⟨w.heap.size + 1, 0, none⟩ = some (.slice a c.l.length ca) ∧ x.cell? ⟨w.heap.size + 1, 1, none⟩ = some (.int .i64 c.lo) ∧ x.cell? ⟨w.heap.size + 1, 2, none⟩ = some (.int .i64 c.un) := ⟨q1.cell 0, q1.cell 1, q1.cell 2⟩
  have zf := Bk.free q0
  go_upto_region 2 with fail
  have p0 : Cb (x.setCell ⟨w.heap.size, 8, none⟩ (.int .i64 c.lo)) w.heap.size [r0, r1, r2, r3, r4, r5, r6, r7] c.lo := Bk.put q0 8 (.int .i64 c.lo)
  have p1 := Bk.off q1 (p := ⟨w.heap.size, 8, none⟩) (by show w.heap.size + 1 ≠ w.heap.size; omega) (.int .i64 c.lo)
  have p2 : Cb (x.setCell ⟨w.heap.size, 8, none⟩ (.int .i64 c.lo)) _ _ _ := Bk.off q2 (p := ⟨w.heap.size, 8, none⟩) (by show w.heap.size + 1 + 1 ≠ w.heap.size; omega) (.int .i64 c.lo)
  have b1 := b0.setCell (p := ⟨w.heap.size, 8, none⟩) (Nat.le_refl _) (.int .i64 c.lo)
  clear q0 q1 q2 b0 c0 c1 c2 c3 c4 c5 c6 c7 c8 k0 k1 k2 zf
  generalize x.setCell ⟨w.heap.size, 8, none⟩ (.int .i64 c.lo) = y at *
  obtain ⟨c0, c1, c2, c3, c4, c5, c6, c7, c8⟩ := p0.cells
  obtain ⟨k0, k1, k2⟩ : y.cell? ⟨w.heap.size + 1, 0, none⟩ = some (.slice a c.l.length ca) ∧ y.cell? ⟨w.heap.size + 1, 1, none⟩ = some (.int .i64 c.lo) ∧ y.cell? ⟨w.heap.size + 1, 2, none⟩ = some (.int .i64 c.un) := ⟨p1.cell 0, p1.cell 1, p1.cell 2⟩
  cases unl
  · simp only [Bool.false_eq_true, if_false] at HRun
    go_upto_region 4 with fail
    have hPv : Pv y (.agg #[.slice a c.l.length ca, .int .i64 c.lo, .int .i64 c.un]) c := ⟨a, ca, rfl, hc1, hc2, hcn, ha.below b1⟩
    replace HRun := Lib.hid (HRun.out y _ hPv)
    clear hPv
    go_wp2_with fail
    refine HRun.out.mono ?_
    rintro e z ⟨m, rfl, hml, hz⟩
    clear c0 c1 c2 c3 c4 c5 c6 c7 c8 k0 k1 k2 HRun
    have hR : RunI w a c.l.length ca c.lo c.un m [r0, r1, r2, r3, r4, r5, r6, r7] c.lo RR.ms z := ⟨b1.trans (hz.mono b1.size), p0.below hz, (hz.block _ p1.lt).trans p1, p2.below hz, hml⟩
    clear p0 p1 p2 b1 hz hml
    obtain ⟨s0, s1, s2, s3, s4, s5, s6, s7, hs⟩ := eight_cons HE.out.1
    have HX := Lib.hid hs
    rw [hs]
    clear hs
    simp only [List.map_cons, List.map_nil, List.cons_append, List.nil_append]
    obtain ⟨n0, n1, n2, n3, n4, n5, n6, n7, n8⟩ := hR.r.cells
    have zf := Bk.free hR.r
    obtain ⟨l9, b9, k9⟩ := hR.ret (r0 := s0) (r1 := s1) (r2 := s2) (r3 := s3) (r4 := s4) (r5 := s5) (r6 := s6) (r7 := s7) (pc' := RR.pc)
    go_wp
    generalize hv9 : (((((((((z.setCell ⟨w.heap.size + 1 + 1, 0, none⟩ (.int .u32 s0)).setCell ⟨w.heap.size + 1 + 1, 1, none⟩ (.int .u32 s1)).setCell ⟨w.heap.size + 1 + 1, 2, none⟩ (.int .u32 s2)).setCell ⟨w.heap.size + 1 + 1, 3, none⟩ (.int .u32 s3)).setCell ⟨w.heap.size + 1 + 1, 4, none⟩ (.int .u32 s4)).setCell ⟨w.heap.size + 1 + 1, 5, none⟩ (.int .u32 s5)).setCell ⟨w.heap.size + 1 + 1, 6, none⟩ (.int .u32 s6)).setCell ⟨w.heap.size + 1 + 1, 7, none⟩ (.int .u32 s7)).setCell ⟨w.heap.size + 1 + 1, 8, none⟩ (.int .i64 RR.pc)) = v9
    replace hv9 : put9 z (w.heap.size + 1 + 1) (.int .u32 s0) (.int .u32 s1) (.int .u32 s2) (.int .u32 s3) (.int .u32 s4) (.int .u32 s5) (.int .u32 s6) (.int .u32 s7) (.int .i64 RR.pc) = v9 := hv9
    rw [hv9] at l9 b9 k9
    obtain ⟨y0, y1, y2, y3, y4, y5, y6, y7, y8⟩ := k9.cells
    exact bodyPost_ret (v := .tuple #[.agg #[.int .u32 s0, .int .u32 s1, .int .u32 s2, .int .u32 s3, .int .u32 s4, .int .u32 s5, .int .u32 s6, .int .u32 s7, .int .i64 RR.pc], m, .int .i64 RR.done, .int .i64 RR.e]) (by simp [results, Try.results22, go_sem, y0, y1, y2, y3, y4, y5, y6, y7, y8]) rfl ⟨m, by rw [HX.out]; rfl, l9, b9⟩
  · simp only [if_true] at HRun
    have zf := Bk.free p0
    go_upto_region 4 with fail
    have o0 : Cb (y.setCell ⟨w.heap.size, 8, none⟩ (.int .i64 c.un)) w.heap.size [r0, r1, r2, r3, r4, r5, r6, r7] c.un := Bk.put p0 8 (.int .i64 c.un)
    have o1 := Bk.off p1 (p := ⟨w.heap.size, 8, none⟩) (by show w.heap.size + 1 ≠ w.heap.size; omega) (.int .i64 c.un)
    have o2 : Cb (y.setCell ⟨w.heap.size, 8, none⟩ (.int .i64 c.un)) _ _ _ := Bk.off p2 (p := ⟨w.heap.size, 8, none⟩) (by show w.heap.size + 1 + 1 ≠ w.heap.size; omega) (.int .i64 c.un)
    have o3 := b1.setCell (p := ⟨w.heap.size, 8, none⟩) (Nat.le_refl _) (.int .i64 c.un)
    clear p0 p1 p2 b1 c0 c1 c2 c3 c4 c5 c6 c7 c8 k0 k1 k2 zf
    have p0 := o0
    have p1 := o1
    have p2 := o2
    have b1 := o3
    clear o0 o1 o2 o3
    generalize y.setCell ⟨w.heap.size, 8, none⟩ (.int .i64 c.un) = y at *
    obtain ⟨c0, c1, c2, c3, c4, c5, c6, c7, c8⟩ := p0.cells
    obtain ⟨k0, k1, k2⟩ : y.cell? ⟨w.heap.size + 1, 0, none⟩ = some (.slice a c.l.length ca) ∧ y.cell? ⟨w.heap.size + 1, 1, none⟩ = some (.int .i64 c.lo) ∧ y.cell? ⟨w.heap.size + 1, 2, none⟩ = some (.int .i64 c.un) := ⟨p1.cell 0, p1.cell 1, p1.cell 2⟩
    have hPv : Pv y (.agg #[.slice a c.l.length ca, .int .i64 c.lo, .int .i64 c.un]) c := ⟨a, ca, rfl, hc1, hc2, hcn, ha.below b1⟩
    replace HRun := Lib.hid (HRun.out y _ hPv)
    clear hPv
    go_wp2_with fail
    refine HRun.out.mono ?_
    rintro e z ⟨m, rfl, hml, hz⟩
    clear c0 c1 c2 c3 c4 c5 c6 c7 c8 k0 k1 k2 HRun
    have hR : RunI w a c.l.length ca c.lo c.un m [r0, r1, r2, r3, r4, r5, r6, r7] c.un RR.ms z := ⟨b1.trans (hz.mono b1.size), p0.below hz, (hz.block _ p1.lt).trans p1, p2.below hz, hml⟩
    clear p0 p1 p2 b1 hz hml
    obtain ⟨s0, s1, s2, s3, s4, s5, s6, s7, hs⟩ := eight_cons HE.out.1
    have HX := Lib.hid hs
    rw [hs]
    clear hs
    simp only [List.map_cons, List.map_nil, List.cons_append, List.nil_append]
    obtain ⟨n0, n1, n2, n3, n4, n5, n6, n7, n8⟩ := hR.r.cells
    have zf := Bk.free hR.r
    obtain ⟨l9, b9, k9⟩ := hR.ret (r0 := s0) (r1 := s1) (r2 := s2) (r3 := s3) (r4 := s4) (r5 := s5) (r6 := s6) (r7 := s7) (pc' := RR.pc)
    go_wp
    generalize hv9 : (((((((((z.setCell ⟨w.heap.size + 1 + 1, 0, none⟩ (.int .u32 s0)).setCell ⟨w.heap.size + 1 + 1, 1, none⟩ (.int .u32 s1)).setCell ⟨w.heap.size + 1 + 1, 2, none⟩ (.int .u32 s2)).setCell ⟨w.heap.size + 1 + 1, 3, none⟩ (.int .u32 s3)).setCell ⟨w.heap.size + 1 + 1, 4, none⟩ (.int .u32 s4)).setCell ⟨w.heap.size + 1 + 1, 5, none⟩ (.int .u32 s5)).setCell ⟨w.heap.size + 1 + 1, 6, none⟩ (.int .u32 s6)).setCell ⟨w.heap.size + 1 + 1, 7, none⟩ (.int .u32 s7)).setCell ⟨w.heap.size + 1 + 1, 8, none⟩ (.int .i64 RR.pc)) = v9
    replace hv9 : put9 z (w.heap.size + 1 + 1) (.int .u32 s0) (.int .u32 s1) (.int .u32 s2) (.int .u32 s3) (.int .u32 s4) (.int .u32 s5) (.int .u32 s6) (.int .u32 s7) (.int .i64 RR.pc) = v9 := hv9
    rw [hv9] at l9 b9 k9
    obtain ⟨y0, y1, y2, y3, y4, y5, y6, y7, y8⟩ := k9.cells
    exact bodyPost_ret (v := .tuple #[.agg #[.int .u32 s0, .int .u32 s1, .int .u32 s2, .int .u32 s3, .int .u32 s4, .int .u32 s5, .int .u32 s6, .int .u32 s7, .int .i64 RR.pc], m, .int .i64 RR.done, .int .i64 RR.e]) (by simp [results, Try.results22, go_sem, y0, y1, y2, y3, y4, y5, y6, y7, y8]) rfl ⟨m, by rw [HX.out]; rfl, l9, b9⟩

/-- A program that lies in a block of its own. -/
theorem pv_made (w : World) (t : TypeId) (l : List Ins) (lo un : Int) (hl : l.length ≤ 1000) : Pv (w.alloc (.cells (progC l).toArray t)) (.agg #[.slice (some ⟨w.heap.size, 0, none⟩) l.length l.length, .int .i64 lo, .int .i64 un]) ⟨l, lo, un⟩ := by
  refine ⟨some ⟨w.heap.size, 0, none⟩, l.length, rfl, Nat.le_refl _, by simp only [maxLen]; omega, (fun h => by cases h), fun _ => ⟨w.heap.size, 0, rfl, by simp, fun k i hk j hj => ?_⟩⟩
  have hkl := (List.getElem?_eq_some_iff.1 hk).1
  rw [Nat.zero_add, (Bk.made w t (progC l).toArray).cell, List.getElem?_toArray, progC_at hk hj]

def awk1 : Prg := ⟨[⟨1, 1, 0, 0, 0, 0, 5, 0⟩, ⟨13, 0, 0, 0, 0, 0, 1, 0⟩], 0, 0⟩
def awk2 : Prg := ⟨[⟨10, 0, 0, 0, 0, 0, 0, 0⟩], 0, 0⟩
def zero8 : List Int := [0, 0, 0, 0, 0, 0, 0, 0]
theorem zero8_eight : Eight zero8 := ⟨rfl, U32s.zeros 8⟩
theorem awk1_ran : runL 0 awk1.l 256 zero8 0 [] = ⟨[0, 5, 0, 0, 0, 0, 0, 0], 1, [], 1, 0⟩ := by
  have h1 := runL_step (self := 0) (l := awk1.l) (n := 255) (xs := zero8) (k := 0) (ms := []) (i := ⟨1, 1, 0, 0, 0, 0, 5, 0⟩) rfl rfl (by decide)
  have h2 := runL_done (self := 0) (l := awk1.l) (n := 254) (xs := [0, 5, 0, 0, 0, 0, 0, 0]) (k := 1) (ms := []) (i := ⟨13, 0, 0, 0, 0, 0, 1, 0⟩) rfl rfl
  exact h1.trans h2
theorem awk2_ran : ∀ n, runL 0 awk2.l n zero8 0 [] = ⟨zero8, 0, [], -1, 11⟩
  | 0 => runL_zero (self := 0) (l := awk2.l) (xs := zero8) (k := 0) (ms := []) (i := ⟨10, 0, 0, 0, 0, 0, 0, 0⟩) rfl rfl
  | n + 1 => (runL_step (self := 0) (l := awk2.l) (n := n) (xs := zero8) (k := 0) (ms := []) (i := ⟨10, 0, 0, 0, 0, 0, 0, 0⟩) rfl rfl (by decide)).trans (awk2_ran n)
theorem awk1_ok : ∀ i ∈ awk1.l, OkI i := by
  intro i hi
  simp only [awk1, List.mem_cons, List.not_mem_nil, or_false] at hi
  rcases hi with rfl | rfl <;> exact ⟨by decide, by decide, by decide, by decide, by decide, by decide, by decide⟩
theorem awk2_ok : ∀ i ∈ awk2.l, OkI i := by
  intro i hi
  simp only [awk2, List.mem_cons, List.not_mem_nil, or_false] at hi
  rcases hi with rfl
  exact ⟨by decide, by decide, by decide, by decide, by decide, by decide, by decide⟩

theorem lst_put9 {W : World} {m : Value} {ms : List Int} {g : Nat} {ty : TypeId} {cs : Array Value} (hl : Lst .i64 3 W m ms) (hk : Bk W g ty cs) (ht : ty ≠ 3) (a b c d e f h i j : Value) : Lst .i64 3 (put9 W g a b c d e f h i j) m ms := by
  have hW : Within W (put9 W g a b c d e f h i j) (fun x => x = g) := by
    unfold put9
    exact (((((((((Within.refl W (fun b => b = g)).put _ 0 _ (.inl rfl)).put _ 1 _ (.inl rfl)).put _ 2 _ (.inl rfl)).put _ 3 _ (.inl rfl)).put _ 4 _ (.inl rfl)).put _ 5 _ (.inl rfl)).put _ 6 _ (.inl rfl)).put _ 7 _ (.inl rfl)).put _ 8 _ (.inl rfl)
  refine hl.within hW fun x ex e2 => ?_
  obtain ⟨cs2, hcs⟩ := hl.bk ex
  exact Bk.unlike hcs hk (fun e => ht e.symm) e2
/-- What the document's run answers, as one value. -/
def TupR (v0 : Value) (ms : List Int) (D E : Int) (v : Value) (W : World) : Prop := ∃ m, v = .tuple #[v0, m, .int .i64 D, .int .i64 E] ∧ Lst .i64 3 W m ms
theorem TupR.below {v0 : Value} {ms : List Int} {D E : Int} {v : Value} {W W' : World} (h : TupR v0 ms D E v W) (hb : Below W.heap.size W W') : TupR v0 ms D E v W' := by
  obtain ⟨m, e, h⟩ := h
  exact ⟨m, e, lst_below h hb⟩

end Go.Proofs.Ytpinpipjlongaaa
