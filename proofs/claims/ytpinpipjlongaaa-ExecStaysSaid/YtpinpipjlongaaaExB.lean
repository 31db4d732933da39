/- Layer 10 (exec): a thread's core, the instruction at which it stands, await. -/
import Derived.Test.YtpinpipjlongaaaExA
namespace Go.Proofs.Ytpinpipjlongaaa
set_option maxRecDepth 100000
open Go.ChangeShapes Go.WideShapes Go.ChangeAt Go.RowKit
set_option linter.unusedVariables false
section
variable {w w' : World} {X : XP} {k : Lk} {m : Mc}

set_option maxHeartbeats 1000000 in
theorem xCore (h : Ex w X k m) (t : Nat) (ht : t < k.n) :
    Calls Try.prog 12 #[.pointer (some ⟨X.x, 0, none⟩), .int .i64 t] w fun e w' => e = .returned (cv (m.cs t).xs (m.cs t).pc) ∧ Below w.heap.size w w' := by
  have hf := h.lk.n64
  obtain ⟨r0, r1, r2, r3, r4, r5, r6, r7, pc, ec⟩ := h.core_cons ht
  have h2 := h.below ((Below.refl _ w).alloc (Nat.le_refl _) (.cells #[.int .u32 0, .int .u32 0, .int .u32 0, .int .u32 0, .int .u32 0, .int .u32 0, .int .u32 0, .int .u32 0, .int .i64 0] 52))
  have q0 := Cb.made w [0, 0, 0, 0, 0, 0, 0, 0] 0
  have b0 : Below w.heap.size w (w.alloc (.cells #[.int .u32 0, .int .u32 0, .int .u32 0, .int .u32 0, .int .u32 0, .int .u32 0, .int .u32 0, .int .u32 0, .int .i64 0] 52)) := (Below.refl _ _).alloc (Nat.le_refl _) _
  simp only [corC, List.map_cons, List.map_nil, List.cons_append, List.nil_append] at q0
  rw [ec]
  unfold cv
  simp only [corC, List.map_cons, List.map_nil, List.cons_append, List.nil_append]
  go_enter Try.func12, Try.ntmps12
  go_upto_region 1 with fail
  generalize w.alloc (.cells #[.int .u32 0, .int .u32 0, .int .u32 0, .int .u32 0, .int .u32 0, .int .u32 0, .int .u32 0, .int .u32 0, .int .i64 0] 52) = x at *
  go_wp2_with fail
  refine (xThread h2 t ht).mono ?_
  rintro e w' ⟨rfl, rfl⟩
  have c5 := h2.c5
  obtain ⟨c0, c1, c2, c3, c4, c5', c6, c7, c8⟩ := h2.core ht ec
  have zf := Bk.free q0
  obtain ⟨z0, z1, z2, z3, z4, z5, z6, z7, z8⟩ := q0.cells
  go_upto_region 3 with fail
  have h9 := put9_bk q0 (.int .u32 r0) (.int .u32 r1) (.int .u32 r2) (.int .u32 r3) (.int .u32 r4) (.int .u32 r5) (.int .u32 r6) (.int .u32 r7) (.int .i64 pc)
  have b9 := put9_below b0 (Nat.le_refl _) (.int .u32 r0) (.int .u32 r1) (.int .u32 r2) (.int .u32 r3) (.int .u32 r4) (.int .u32 r5) (.int .u32 r6) (.int .u32 r7) (.int .i64 pc)
  go_wp
  generalize hv9 : (((((((((x.setCell ⟨w.heap.size, 0, none⟩ (.int .u32 r0)).setCell ⟨w.heap.size, 1, none⟩ (.int .u32 r1)).setCell ⟨w.heap.size, 2, none⟩ (.int .u32 r2)).setCell ⟨w.heap.size, 3, none⟩ (.int .u32 r3)).setCell ⟨w.heap.size, 4, none⟩ (.int .u32 r4)).setCell ⟨w.heap.size, 5, none⟩ (.int .u32 r5)).setCell ⟨w.heap.size, 6, none⟩ (.int .u32 r6)).setCell ⟨w.heap.size, 7, none⟩ (.int .u32 r7)).setCell ⟨w.heap.size, 8, none⟩ (.int .i64 pc)) = v9
  replace hv9 : put9 x w.heap.size (.int .u32 r0) (.int .u32 r1) (.int .u32 r2) (.int .u32 r3) (.int .u32 r4) (.int .u32 r5) (.int .u32 r6) (.int .u32 r7) (.int .i64 pc) = v9 := hv9
  rw [hv9] at h9 b9
  obtain ⟨y0, y1, y2, y3, y4, y5, y6, y7, y8⟩ := Cb.cells (r0 := r0) (r1 := r1) (r2 := r2) (r3 := r3) (r4 := r4) (r5 := r5) (r6 := r6) (r7 := r7) (pc := pc) h9
  exact bodyPost_ret (v := .agg #[.int .u32 r0, .int .u32 r1, .int .u32 r2, .int .u32 r3, .int .u32 r4, .int .u32 r5, .int .u32 r6, .int .u32 r7, .int .i64 pc]) (by simp [results, Try.results12, go_sem, y0, y1, y2, y3, y4, y5, y6, y7, y8]) rfl ⟨rfl, b9⟩

/-- No instruction of the memory stands there. -/
def NoInst (w : World) (e : Ending) (w' : World) : Prop := e = .returned (.tuple #[iv Ins.zero, .bool false]) ∧ Below w.heap.size w w'
/-- This one stands there. -/
def OneInst (w : World) (i : Ins) (e : Ending) (w' : World) : Prop := e = .returned (.tuple #[iv i, .bool true]) ∧ Below w.heap.size w w'

set_option maxHeartbeats 2000000 in
theorem xStandNone (h : Ex w X k m) (t : Nat) (ht : t < k.n) (hn : memI k (m.cs t).pc = none) :
    Calls Try.prog 24 #[.pointer (some ⟨X.x, 0, none⟩), .int .i64 t] w (NoInst w) := by
  have hf := h.lk.n64
  have hl := h.lk.parts
  obtain ⟨r0, r1, r2, r3, r4, r5, r6, r7, pc, ec⟩ := h.core_cons ht
  rw [ec] at hn
  simp only at hn
  have h2 := h.below ((Below.refl _ w).alloc (Nat.le_refl _) (.cells #[.int .i64 0, .int .i64 0, .int .i64 0, .int .i64 0, .int .i64 0, .int .i64 0, .int .u32 0, .int .i64 0] 55))
  have q0 := Ib.made w 0 0 0 0 0 0 0 0
  have b0 : Below w.heap.size w (w.alloc (.cells #[.int .i64 0, .int .i64 0, .int .i64 0, .int .i64 0, .int .i64 0, .int .i64 0, .int .u32 0, .int .i64 0] 55)) := (Below.refl _ _).alloc (Nat.le_refl _) _
  unfold NoInst iv Ins.zero
  go_enter Try.func24, Try.ntmps24
  go_upto_region 1 with fail
  generalize w.alloc (.cells #[.int .i64 0, .int .i64 0, .int .i64 0, .int .i64 0, .int .i64 0, .int .i64 0, .int .u32 0, .int .i64 0] 55) = x at *
  go_wp2_with fail
  refine (xThread h2 t ht).mono ?_
  rintro e w' ⟨rfl, rfl⟩
  have c5 := h2.c5
  obtain ⟨c0, c1, c2, c3, c4, c5', c6, c7, c8⟩ := h2.core ht ec
  have k0 := h2.c0
  obtain ⟨hpv, a, cap, ecv⟩ := h2.pv
  rw [ecv] at k0
  have zf := Bk.free q0
  obtain ⟨z0, z1, z2, z3, z4, z5, z6, z7⟩ := q0.cells
  simp only at z0 z1 z2 z3 z4 z5 z6 z7
  have hg : ∀ y : World, Ib y w.heap.size Ins.zero → Below w.heap.size w y → Ib (put8 y w.heap.size Ins.zero) w.heap.size Ins.zero ∧ Below w.heap.size w (put8 y w.heap.size Ins.zero) := fun y hy hb => ⟨put8_ib hy, put8_below hb (Nat.le_refl _)⟩
  have HG := Lib.hid hg
  clear hg
  rcases memI_none hn with hp | hp | ⟨j, hp0, hp1, hj, hmj⟩
  · clear hn hl
    have hp' : decide (pc < 0) = true := by simpa using hp
    obtain ⟨g1, g2⟩ := HG.out x q0 b0
    clear q0 b0 HG h h2 hpv
    go_upto_region 5 with fail
    go_wp
    generalize hv9 : (((((((x.setCell ⟨w.heap.size, 0, none⟩ (.int .i64 0)).setCell ⟨w.heap.size, 1, none⟩ (.int .i64 0)).setCell ⟨w.heap.size, 2, none⟩ (.int .i64 0)).setCell ⟨w.heap.size, 3, none⟩ (.int .i64 0)).setCell ⟨w.heap.size, 4, none⟩ (.int .i64 0)).setCell ⟨w.heap.size, 5, none⟩ (.int .i64 0)).setCell ⟨w.heap.size, 6, none⟩ (.int .u32 0)).setCell ⟨w.heap.size, 7, none⟩ (.int .i64 0) = v9
    replace hv9 : put8 x w.heap.size Ins.zero = v9 := hv9
    rw [hv9] at g1 g2
    obtain ⟨y0, y1, y2, y3, y4, y5, y6, y7⟩ := g1.cells
    simp only [Ins.zero] at y0 y1 y2 y3 y4 y5 y6 y7
    exact bodyPost_ret (v := .tuple #[.agg #[.int .i64 0, .int .i64 0, .int .i64 0, .int .i64 0, .int .i64 0, .int .i64 0, .int .u32 0, .int .i64 0], .bool false]) (by simp [results, Try.results24, go_sem, y0, y1, y2, y3, y4, y5, y6, y7]) rfl ⟨rfl, g2⟩
  · have hp' : decide (pc < 0) = false := by simp; omega
    have hp2 : decide (pc ≥ (k.l.length : Int)) = true := by simp; omega
    have hp3 : (k.l.length : Int) ≤ pc := hp
    have hl2 := hl.2.1
    clear hn hl
    obtain ⟨g1, g2⟩ := HG.out x q0 b0
    clear q0 b0 HG h h2 hpv
    go_upto_region 5 with fail
    go_wp
    generalize hv9 : (((((((x.setCell ⟨w.heap.size, 0, none⟩ (.int .i64 0)).setCell ⟨w.heap.size, 1, none⟩ (.int .i64 0)).setCell ⟨w.heap.size, 2, none⟩ (.int .i64 0)).setCell ⟨w.heap.size, 3, none⟩ (.int .i64 0)).setCell ⟨w.heap.size, 4, none⟩ (.int .i64 0)).setCell ⟨w.heap.size, 5, none⟩ (.int .i64 0)).setCell ⟨w.heap.size, 6, none⟩ (.int .u32 0)).setCell ⟨w.heap.size, 7, none⟩ (.int .i64 0) = v9
    replace hv9 : put8 x w.heap.size Ins.zero = v9 := hv9
    rw [hv9] at g1 g2
    obtain ⟨y0, y1, y2, y3, y4, y5, y6, y7⟩ := g1.cells
    simp only [Ins.zero] at y0 y1 y2 y3 y4 y5 y6 y7
    exact bodyPost_ret (v := .tuple #[.agg #[.int .i64 0, .int .i64 0, .int .i64 0, .int .i64 0, .int .i64 0, .int .i64 0, .int .u32 0, .int .i64 0], .bool false]) (by simp [results, Try.results24, go_sem, y0, y1, y2, y3, y4, y5, y6, y7]) rfl ⟨rfl, g2⟩
  · obtain ⟨a2, ca2, e2, _, _, _, hsl⟩ := hpv
    simp only [Value.agg.injEq, Array.mk.injEq, List.cons.injEq, ecv, Value.slice.injEq, and_true, true_and] at e2
    obtain ⟨rfl, rfl⟩ := e2
    obtain ⟨n, rfl⟩ := Int.eq_ofNat_of_zero_le hp0
    rw [Int.toNat_natCast] at hj
    obtain ⟨g, off, rfl, hgl, e0, e1, e2, e3, e4, e5, e6, e7⟩ := hsl.at_ hj
    have hp' : decide ((n : Int) < 0) = false := by simp
    have hp2 : decide ((n : Int) ≥ (k.l.length : Int)) = false := by simp; omega
    have hp3 : (n : Int) < k.l.length := hp1
    have hl2 := hl.2.1
    have HM := Lib.hid (fun W => cMemory j W)
    rw [hmj] at HM
    have HQ := Lib.hid q0
    have HB := Lib.hid b0
    clear hn hl q0 b0 zf z0 z1 z2 z3 z4 z5 z6 z7 hmj
    obtain ⟨op, d, s, t', u, a', k', pl⟩ := j
    unfold iv at HM
    simp only at e0 e1 e2 e3 e4 e5 e6 e7 HM
    go_wp2_with fail
    refine (HM.out _).mono ?_
    rintro e y ⟨rfl, hy⟩
    have q0 := HQ.out.below hy
    obtain ⟨g1, g2⟩ := HG.out y q0 (HB.out.trans (hy.mono HB.out.size))
    have zf := Bk.free q0
    obtain ⟨z0, z1, z2, z3, z4, z5, z6, z7⟩ := q0.cells
    simp only at z0 z1 z2 z3 z4 z5 z6 z7
    clear q0 HQ HB HG h h2 hsl HM e0 e1 e2 e3 e4 e5 e6 e7 c0 c1 c2 c3 c4 c5 c5' c6 c7 c8 k0
    go_upto_region 5 with fail
    go_wp
    generalize hv9 : (((((((y.setCell ⟨w.heap.size, 0, none⟩ (.int .i64 0)).setCell ⟨w.heap.size, 1, none⟩ (.int .i64 0)).setCell ⟨w.heap.size, 2, none⟩ (.int .i64 0)).setCell ⟨w.heap.size, 3, none⟩ (.int .i64 0)).setCell ⟨w.heap.size, 4, none⟩ (.int .i64 0)).setCell ⟨w.heap.size, 5, none⟩ (.int .i64 0)).setCell ⟨w.heap.size, 6, none⟩ (.int .u32 0)).setCell ⟨w.heap.size, 7, none⟩ (.int .i64 0) = v9
    replace hv9 : put8 y w.heap.size Ins.zero = v9 := hv9
    rw [hv9] at g1 g2
    obtain ⟨y0, y1, y2, y3, y4, y5, y6, y7⟩ := g1.cells
    simp only [Ins.zero] at y0 y1 y2 y3 y4 y5 y6 y7
    exact bodyPost_ret (v := .tuple #[.agg #[.int .i64 0, .int .i64 0, .int .i64 0, .int .i64 0, .int .i64 0, .int .i64 0, .int .u32 0, .int .i64 0], .bool false]) (by simp [results, Try.results24, go_sem, y0, y1, y2, y3, y4, y5, y6, y7]) rfl ⟨rfl, g2⟩

end
end Go.Proofs.Ytpinpipjlongaaa
