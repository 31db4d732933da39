/- The instruction of the memory at which a thread stands. -/
import Derived.Test.YtpinpipjlongaaaExB
namespace Go.Proofs.Ytpinpipjlongaaa
set_option maxRecDepth 100000
open Go.ChangeShapes Go.WideShapes Go.ChangeAt Go.RowKit
set_option linter.unusedVariables false
section
variable {w w' : World} {X : XP} {k : Lk} {m : Mc}

set_option maxHeartbeats 2000000 in
theorem xStandOne (h : Ex w X k m) (t : Nat) (ht : t < k.n) {i : Ins} (hn : memI k (m.cs t).pc = some i) :
    Calls Try.prog 24 #[.pointer (some ⟨X.x, 0, none⟩), .int .i64 t] w (OneInst w i) := by
  have hf := h.lk.n64
  have hl := h.lk.parts
  obtain ⟨r0, r1, r2, r3, r4, r5, r6, r7, pc, ec⟩ := h.core_cons ht
  rw [ec] at hn
  simp only at hn
  have h2 := h.below ((Below.refl _ w).alloc (Nat.le_refl _) (.cells #[.int .i64 0, .int .i64 0, .int .i64 0, .int .i64 0, .int .i64 0, .int .i64 0, .int .u32 0, .int .i64 0] 55))
  have q0 := Ib.made w 0 0 0 0 0 0 0 0
  have b0 : Below w.heap.size w (w.alloc (.cells #[.int .i64 0, .int .i64 0, .int .i64 0, .int .i64 0, .int .i64 0, .int .i64 0, .int .u32 0, .int .i64 0] 55)) := (Below.refl _ _).alloc (Nat.le_refl _) _
  obtain ⟨hp0, hp1, hj, hmj⟩ := memI_is hn
  obtain ⟨n, rfl⟩ := Int.eq_ofNat_of_zero_le hp0
  rw [Int.toNat_natCast] at hj
  have HG : Hid (∀ y : World, Ib y w.heap.size Ins.zero → Below w.heap.size w y → Ib (put8 y w.heap.size i) w.heap.size i ∧ Below w.heap.size w (put8 y w.heap.size i)) := Lib.hid fun y hy hb => ⟨put8_ib hy, put8_below hb (Nat.le_refl _)⟩
  have HM := Lib.hid (fun W => cMemory i W)
  rw [hmj] at HM
  obtain ⟨op, d, s, t', u, a', k', pl⟩ := i
  unfold OneInst iv
  unfold iv at HM
  simp only at HM ⊢
  go_enter Try.func24, Try.ntmps24
  go_upto_region 1 with fail
  generalize w.alloc (.cells #[.int .i64 0, .int .i64 0, .int .i64 0, .int .i64 0, .int .i64 0, .int .i64 0, .int .u32 0, .int .i64 0] 55) = x at *
  go_wp2_with fail
  refine (xThread h2 t ht).mono ?_
  rintro e w' ⟨rfl, rfl⟩
  have c5 := h2.c5
  obtain ⟨c0, c1, c2, c3, c4, c5', c6, c7, c8⟩ := h2.core ht ec
  have k0 := h2.c0
  obtain ⟨hpv, a, cap, ecv⟩ := h2.pv
  rw [ecv] at k0
  obtain ⟨a2, ca2, e2, _, _, _, hsl⟩ := hpv
  simp only [Value.agg.injEq, Array.mk.injEq, List.cons.injEq, ecv, Value.slice.injEq, and_true, true_and] at e2
  obtain ⟨rfl, rfl⟩ := e2
  have HSL := Lib.hid hsl
  obtain ⟨g, off, rfl, hgl, e0, e1, e2, e3, e4, e5, e6, e7⟩ := hsl.at_ hj
  have hp' : decide ((n : Int) < 0) = false := by simp
  have hp2 : decide ((n : Int) ≥ (k.l.length : Int)) = false := by simp; omega
  have hp3 : (n : Int) < k.l.length := hp1
  have hl2 := hl.2.1
  have HQ := Lib.hid q0
  have HB := Lib.hid b0
  have HX := Lib.hid h2
  have HJ := Lib.hid hj
  clear hn hl q0 b0 hmj hsl h hj
  simp only at e0 e1 e2 e3 e4 e5 e6 e7
  go_wp2_with fail
  refine (HM.out _).mono ?_
  rintro e y ⟨rfl, hy⟩
  have q0 := HQ.out.below hy
  obtain ⟨g1, g2⟩ := HG.out y q0 (HB.out.trans (hy.mono HB.out.size))
  have zf := Bk.free q0
  obtain ⟨z0, z1, z2, z3, z4, z5, z6, z7⟩ := q0.cells
  simp only at z0 z1 z2 z3 z4 z5 z6 z7
  clear e0 e1 e2 e3 e4 e5 e6 e7 c0 c1 c2 c3 c4 c5 c5' c6 c7 c8 k0
  have h3 := HX.out.below hy
  have k0 := h3.c0
  rw [ecv] at k0
  obtain ⟨g', off', ee, hgl', e0, e1, e2, e3, e4, e5, e6, e7⟩ := (HSL.out.below hy).at_ HJ.out
  simp only [Option.some.injEq, Addr.mk.injEq, and_true] at ee
  obtain ⟨rfl, rfl⟩ := ee
  simp only at e0 e1 e2 e3 e4 e5 e6 e7
  clear q0 HQ HB HG h2 h3 HM HX HSL HJ hgl'
  have hp4 : decide (k.l.length ≤ n) = false := by simp; omega
  rw [hp4]
  go_upto_region 6 with fail
  go_wp
  generalize hv9 : (((((((y.setCell ⟨w.heap.size, 0, none⟩ (.int .i64 op)).setCell ⟨w.heap.size, 1, none⟩ (.int .i64 d)).setCell ⟨w.heap.size, 2, none⟩ (.int .i64 s)).setCell ⟨w.heap.size, 3, none⟩ (.int .i64 t')).setCell ⟨w.heap.size, 4, none⟩ (.int .i64 u)).setCell ⟨w.heap.size, 5, none⟩ (.int .i64 a')).setCell ⟨w.heap.size, 6, none⟩ (.int .u32 k')).setCell ⟨w.heap.size, 7, none⟩ (.int .i64 pl) = v9
  replace hv9 : put8 y w.heap.size ⟨op, d, s, t', u, a', k', pl⟩ = v9 := hv9
  rw [hv9] at g1 g2
  obtain ⟨y0, y1, y2, y3, y4, y5, y6, y7⟩ := g1.cells
  simp only at y0 y1 y2 y3 y4 y5 y6 y7
  exact bodyPost_ret (v := .tuple #[.agg #[.int .i64 op, .int .i64 d, .int .i64 s, .int .i64 t', .int .i64 u, .int .i64 a', .int .u32 k', .int .i64 pl], .bool true]) (by simp [results, Try.results24, go_sem, y0, y1, y2, y3, y4, y5, y6, y7]) rfl ⟨rfl, g2⟩

end
end Go.Proofs.Ytpinpipjlongaaa
