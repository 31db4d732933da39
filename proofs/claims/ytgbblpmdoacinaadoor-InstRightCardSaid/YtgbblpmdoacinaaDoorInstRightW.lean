/- The walk of InstRight. -/
import Derived.Test.YtgbblpmdoacinaaDoorInstK
import Derived.Test.YtgbblpmdoacinaaDoorInstW
namespace Go.Proofs.YtgbblpmdoacinaaDoor.instRight
open Go.ChangeShapes Go.WideShapes Go.ChangeAt Go.RowKit
set_option linter.unusedVariables false

set_option maxHeartbeats 2000000 in
theorem walk (i : Ins) (p : Int) (hi : i.Wf) (hp : (Lit.int .i64 p).wf = true) (w : World) (L : Lb w) :
    Calls Tryd.prog 3 #[iv i, .int .i64 p] w fun e w' => e = .returned (.bool true) ∧ Below w.heap.size w w' := by
  have k0 := hi.k0
  have k1 := hi.k1
  obtain ⟨op, d, s, t, u, a, k, pl⟩ := i
  simp only at k0 k1
  have H1 := Lib.hid (show ∀ W, Calls Tryd.prog 7 #[(.agg #[.int .i64 op, .int .i64 d, .int .i64 s, .int .i64 t, .int .i64 u, .int .i64 a, .int .u32 k, .int .i64 pl]), .int .i64 p] W fun e w' => e = .returned (.bool (rightB ⟨op, d, s, t, u, a, k, pl⟩ p)) ∧ Below W.heap.size W w' from fun W => cRight ⟨op, d, s, t, u, a, k, pl⟩ p k0 k1 W)
  have H2 := Lib.hid (show ∀ W, Calls Tryd.prog 9 #[(.agg #[.int .i64 op, .int .i64 d, .int .i64 s, .int .i64 t, .int .i64 u, .int .i64 a, .int .u32 k, .int .i64 pl])] W fun e w' => e = .returned (.agg #[.int .i64 op, .int .i64 d, .int .i64 s, .int .i64 t, .int .i64 u, .int .i64 a, .int .u32 k, .int .i64 pl]) ∧ Below W.heap.size W w' from fun W => rRef ⟨op, d, s, t, u, a, k, pl⟩ W)
  have H3 := Lib.hid (show ∀ W, Calls Tryd.prog 8 #[(.agg #[.int .i64 op, .int .i64 d, .int .i64 s, .int .i64 t, .int .i64 u, .int .i64 a, .int .u32 k, .int .i64 pl]), .int .i64 p] W fun e w' => e = .returned (.bool (rightB ⟨op, d, s, t, u, a, k, pl⟩ p)) ∧ Below W.heap.size W w' from fun W => rRight ⟨op, d, s, t, u, a, k, pl⟩ p k0 k1 W)
  have H4 := Lib.hid (show ∀ W, Calls Tryd.prog 10 #[(.agg #[.int .i64 op, .int .i64 d, .int .i64 s, .int .i64 t, .int .i64 u, .int .i64 a, .int .u32 k, .int .i64 pl])] W fun e w' => e = .returned (.bool (memB op)) ∧ Below W.heap.size W w' from fun W => cMemory ⟨op, d, s, t, u, a, k, pl⟩ W)
  have EM : memB op = (decide (16 ≤ op) && decide (op ≤ 23)) := rfl
  generalize rightB ⟨op, d, s, t, u, a, k, pl⟩ p = r at *
  generalize memB op = m at *
  clear hi hp k0 k1
  unfold iv
  by_cases h16 : 16 ≤ op
  · by_cases h23 : op ≤ 23
    · obtain rfl : m = true := by rw [EM]; simp [h16, h23]
      clear EM
      cases r
      all_goals
        go_enter Tryd.func3, Tryd.ntmps3
        go_wp2_with fail
        generalize hx0 : w.alloc (.cells #[.int .i64 op, .int .i64 d, .int .i64 s, .int .i64 t, .int .i64 u, .int .i64 a, .int .u32 k, .int .i64 pl] 24) = x at *
        have hI : Ib x w.heap.size ⟨op, d, s, t, u, a, k, pl⟩ := by rw [← hx0]; exact Ib.made w _ _ _ _ _ _ _ _
        have hb : Below w.heap.size w x := by rw [← hx0]; exact (Below.refl _ _).alloc (Nat.le_refl _) _
        clear hx0
        have H5 := Lib.hid (fun g : Grw x => lAwake g.x ((L.below hb).grw g))
        obtain ⟨g0, g1, g2, g3, g4, g5, g6, g7⟩ := hI.grw
        simp only at g0 g1 g2 g3 g4 g5 g6 g7
        refine wp_region_grow (by kernel_rfl) (by kernel_rfl) ?_
        repeat (go_big_quiet_step (first | (go_at_call 7; with_reducible exact grw_call (H1.out _)) | (go_at_call 9; with_reducible exact grw_call (H2.out _)) | (go_at_call 8; with_reducible exact grw_call (H3.out _)) | (go_at_call 10; with_reducible exact grw_call (H4.out _)) | (go_at_call 11; with_reducible exact grw_call (H5.out _))))
        refine wpQuiet_nil ?_
        rintro y ⟨⟨_, hy⟩, rfl⟩
        go_wp2
        go_ret
        exact ⟨rfl, hb.trans (hy.mono hb.size)⟩
    · obtain rfl : m = false := by rw [EM]; simp [h23]
      have d23 : decide (op ≤ 23) = false := by simpa using h23
      clear EM h23
      cases r
      all_goals
        go_enter Tryd.func3, Tryd.ntmps3
        go_wp2_with fail
        generalize hx0 : w.alloc (.cells #[.int .i64 op, .int .i64 d, .int .i64 s, .int .i64 t, .int .i64 u, .int .i64 a, .int .u32 k, .int .i64 pl] 24) = x at *
        have hI : Ib x w.heap.size ⟨op, d, s, t, u, a, k, pl⟩ := by rw [← hx0]; exact Ib.made w _ _ _ _ _ _ _ _
        have hb : Below w.heap.size w x := by rw [← hx0]; exact (Below.refl _ _).alloc (Nat.le_refl _) _
        clear hx0
        have H5 := Lib.hid (fun g : Grw x => lAwake g.x ((L.below hb).grw g))
        obtain ⟨g0, g1, g2, g3, g4, g5, g6, g7⟩ := hI.grw
        simp only at g0 g1 g2 g3 g4 g5 g6 g7
        refine wp_region_grow (by kernel_rfl) (by kernel_rfl) ?_
        repeat (go_big_quiet_step (first | (go_at_call 7; with_reducible exact grw_call (H1.out _)) | (go_at_call 9; with_reducible exact grw_call (H2.out _)) | (go_at_call 8; with_reducible exact grw_call (H3.out _)) | (go_at_call 10; with_reducible exact grw_call (H4.out _)) | (go_at_call 11; with_reducible exact grw_call (H5.out _))))
        refine wpQuiet_nil ?_
        rintro y ⟨⟨_, hy⟩, rfl⟩
        go_wp2
        go_ret
        exact ⟨rfl, hb.trans (hy.mono hb.size)⟩
  · obtain rfl : m = false := by rw [EM]; simp [h16]
    have d16 : decide (op ≥ 16) = false := by simpa using h16
    clear EM h16
    cases r
    all_goals
      go_enter Tryd.func3, Tryd.ntmps3
      go_wp2_with fail
      generalize hx0 : w.alloc (.cells #[.int .i64 op, .int .i64 d, .int .i64 s, .int .i64 t, .int .i64 u, .int .i64 a, .int .u32 k, .int .i64 pl] 24) = x at *
      have hI : Ib x w.heap.size ⟨op, d, s, t, u, a, k, pl⟩ := by rw [← hx0]; exact Ib.made w _ _ _ _ _ _ _ _
      have hb : Below w.heap.size w x := by rw [← hx0]; exact (Below.refl _ _).alloc (Nat.le_refl _) _
      clear hx0
      have H5 := Lib.hid (fun g : Grw x => lAwake g.x ((L.below hb).grw g))
      obtain ⟨g0, g1, g2, g3, g4, g5, g6, g7⟩ := hI.grw
      simp only at g0 g1 g2 g3 g4 g5 g6 g7
      refine wp_region_grow (by kernel_rfl) (by kernel_rfl) ?_
      repeat (go_big_quiet_step (first | (go_at_call 7; with_reducible exact grw_call (H1.out _)) | (go_at_call 9; with_reducible exact grw_call (H2.out _)) | (go_at_call 8; with_reducible exact grw_call (H3.out _)) | (go_at_call 10; with_reducible exact grw_call (H4.out _)) | (go_at_call 11; with_reducible exact grw_call (H5.out _))))
      refine wpQuiet_nil ?_
      rintro y ⟨⟨_, hy⟩, rfl⟩
      go_wp2
      go_ret
      exact ⟨rfl, hb.trans (hy.mono hb.size)⟩
end Go.Proofs.YtgbblpmdoacinaaDoor.instRight
