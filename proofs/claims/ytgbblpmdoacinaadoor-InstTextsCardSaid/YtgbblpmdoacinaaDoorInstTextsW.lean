/- The walk of InstTexts. -/
import Derived.Test.YtgbblpmdoacinaaDoorInstK
import Derived.Test.YtgbblpmdoacinaaDoorInstW
import Derived.Test.YtgbblpmdoacinaaDoorInstTX
namespace Go.Proofs.YtgbblpmdoacinaaDoor.instTexts
open Go.ChangeShapes Go.WideShapes Go.ChangeAt Go.RowKit
set_option linter.unusedVariables false

theorem text_len (i : Ins) (h : i.Wf) : (textL i).length ≤ 300 := by
  have h1 := nm_len i.op
  have h2 := parts_len i h (hsL i.op) (hs_ltr i.op)
  have h3 := hs_len i.op
  unfold textL
  rw [List.length_append]
  omega

set_option maxHeartbeats 2000000 in
theorem walk (i : Ins) (hi : i.Wf) (w : World) (L : Lb w) :
    Calls Tryd.prog 4 #[iv i] w fun e w' => e = .returned (.bool true) ∧ Below w.heap.size w w' := by
  have k0 := hi.k0
  have k1 := hi.k1
  have hlen := text_len i hi
  have H1 := Lib.hid (fun W LW => cText i hi W LW)
  have E1 : textV i = if rightB i 1073741824 = true then .tuple #[bs (textL i), .int .i64 0] else .tuple #[bs [], .int .i64 1] := rfl
  have HP := Lib.hid (fun W LW => cParse (textL i) (by omega) W LW)
  have EP : rightB i 1073741824 = true → parseV (textL i) = .tuple #[iv i, .int .i64 0] := fun h => by
    have hp := parse_text i h k0 k1
    unfold parseV
    rw [hp.1, if_pos rfl, hp.2]
  have HX := Lib.hid (fun h W => rTextAll i h k0 k1 W)
  have HR := Lib.hid (fun W => rRight i 1073741824 k0 k1 W)
  have HF := Lib.hid (fun W => rRef i W)
  have HA := Lib.hid (fun W LW => lAwake W LW)
  have hq := run_eqI i i
  rw [show eqI i i = true from (eqI_iff i i).2 rfl] at hq
  generalize textL i = tx at *
  generalize textV i = v1 at *
  generalize parseV tx = v2 at *
  generalize hr : rightB i 1073741824 = r at *
  clear hr hi
  obtain ⟨op, d, s, t, u, a, k, pl⟩ := i
  have HE1 := Lib.hid E1
  have HEP := Lib.hid EP
  clear E1 EP
  unfold iv at hq ⊢
  simp only at hq
  go_enter Tryd.func4, Tryd.ntmps4
  go_wp2_with fail
  have hI : Ib (w.alloc (.cells #[.int .i64 op, .int .i64 d, .int .i64 s, .int .i64 t, .int .i64 u, .int .i64 a, .int .u32 k, .int .i64 pl] 24)) w.heap.size ⟨op, d, s, t, u, a, k, pl⟩ := Ib.made w _ _ _ _ _ _ _ _
  have hb : Below w.heap.size w (w.alloc (.cells #[.int .i64 op, .int .i64 d, .int .i64 s, .int .i64 t, .int .i64 u, .int .i64 a, .int .u32 k, .int .i64 pl] 24)) := (Below.refl _ _).alloc (Nat.le_refl _) _
  generalize w.alloc (.cells #[.int .i64 op, .int .i64 d, .int .i64 s, .int .i64 t, .int .i64 u, .int .i64 a, .int .u32 k, .int .i64 pl] 24) = x at *
  refine (H1.out x (L.below hb)).mono ?_
  rintro e x1 ⟨rfl, hy⟩
  replace hI := hI.below hy
  replace hb := hb.trans (hy.mono hb.size)
  clear hy x
  obtain ⟨c0, c1, c2, c3, c4, c5, c6, c7⟩ := hI.cells
  simp only at c0 c1 c2 c3 c4 c5 c6 c7
  rw [HE1.out]
  cases r
  · rw [if_neg (by decide)]
    unfold bs
    go_wp2_with fail
    refine (HF.out x1).mono ?_
    rintro e x2 ⟨rfl, hy⟩
    replace hI := hI.below hy
    replace hb := hb.trans (hy.mono hb.size)
    clear hy
    clear c0 c1 c2 c3 c4 c5 c6 c7
    obtain ⟨c0, c1, c2, c3, c4, c5, c6, c7⟩ := hI.cells
    simp only at c0 c1 c2 c3 c4 c5 c6 c7
    unfold iv
    go_wp2_with fail
    refine (HR.out x2).mono ?_
    rintro e x3 ⟨rfl, hy⟩
    replace hI := hI.below hy
    replace hb := hb.trans (hy.mono hb.size)
    clear hy
    clear c0 c1 c2 c3 c4 c5 c6 c7
    obtain ⟨c0, c1, c2, c3, c4, c5, c6, c7⟩ := hI.cells
    simp only at c0 c1 c2 c3 c4 c5 c6 c7
    go_wp2_with fail
    refine (HA.out x3 (L.below hb)).mono ?_
    rintro e x4 ⟨rfl, hy⟩
    go_wp2
    go_ret
    exact ⟨rfl, hb.trans (hy.mono hb.size)⟩
  · rw [if_pos rfl]
    unfold bs
    go_wp2_with fail
    refine (HF.out x1).mono ?_
    rintro e x2 ⟨rfl, hy⟩
    replace hI := hI.below hy
    replace hb := hb.trans (hy.mono hb.size)
    clear hy
    clear c0 c1 c2 c3 c4 c5 c6 c7
    obtain ⟨c0, c1, c2, c3, c4, c5, c6, c7⟩ := hI.cells
    simp only at c0 c1 c2 c3 c4 c5 c6 c7
    unfold iv
    go_wp2_with fail
    refine (HR.out x2).mono ?_
    rintro e x3 ⟨rfl, hy⟩
    replace hI := hI.below hy
    replace hb := hb.trans (hy.mono hb.size)
    clear hy
    clear c0 c1 c2 c3 c4 c5 c6 c7
    obtain ⟨c0, c1, c2, c3, c4, c5, c6, c7⟩ := hI.cells
    simp only at c0 c1 c2 c3 c4 c5 c6 c7
    go_wp2_with fail
    refine (HP.out x3 (L.below hb)).mono ?_
    rintro e x4 ⟨rfl, hy⟩
    replace hI := hI.below hy
    replace hb := hb.trans (hy.mono hb.size)
    clear hy
    clear c0 c1 c2 c3 c4 c5 c6 c7
    obtain ⟨c0, c1, c2, c3, c4, c5, c6, c7⟩ := hI.cells
    simp only at c0 c1 c2 c3 c4 c5 c6 c7
    rw [HEP.out (by trivial)]
    unfold iv
    have hlt : w.heap.size < x4.heap.size := Bk.lt hI
    have hne : w.heap.size ≠ x4.heap.size := Nat.ne_of_lt hlt
    go_wp2_with fail
    have mI : Ib (x4.alloc (.cells #[.int .i64 op, .int .i64 d, .int .i64 s, .int .i64 t, .int .i64 u, .int .i64 a, .int .u32 k, .int .i64 pl] 24)) x4.heap.size ⟨op, d, s, t, u, a, k, pl⟩ := Ib.made x4 _ _ _ _ _ _ _ _
    have hI2 : Ib (x4.alloc (.cells #[.int .i64 op, .int .i64 d, .int .i64 s, .int .i64 t, .int .i64 u, .int .i64 a, .int .u32 k, .int .i64 pl] 24)) w.heap.size ⟨op, d, s, t, u, a, k, pl⟩ := Bk.alloc hI _
    have hb2 : Below w.heap.size w (x4.alloc (.cells #[.int .i64 op, .int .i64 d, .int .i64 s, .int .i64 t, .int .i64 u, .int .i64 a, .int .u32 k, .int .i64 pl] 24)) := hb.alloc hb.size _
    clear hlt hne
    generalize x4.heap.size = g at *
    generalize x4.alloc (.cells #[.int .i64 op, .int .i64 d, .int .i64 s, .int .i64 t, .int .i64 u, .int .i64 a, .int .u32 k, .int .i64 pl] 24) = x5 at *
    clear c0 c1 c2 c3 c4 c5 c6 c7 hI hb
    refine (HF.out x5).mono ?_
    rintro e x6 ⟨rfl, hy⟩
    replace hI2 := hI2.below hy
    replace mI := mI.below hy
    replace hb2 := hb2.trans (hy.mono hb2.size)
    clear hy
    unfold iv
    go_wp2_with fail
    refine (HX.out (by trivial) x6).mono ?_
    rintro e x7 ⟨rfl, hy⟩
    replace hI2 := hI2.below hy
    replace mI := mI.below hy
    replace hb2 := hb2.trans (hy.mono hb2.size)
    clear hy
    obtain ⟨c0, c1, c2, c3, c4, c5, c6, c7⟩ := hI2.cells
    obtain ⟨m0, m1, m2, m3, m4, m5, m6, m7⟩ := mI.cells
    simp only at c0 c1 c2 c3 c4 c5 c6 c7 m0 m1 m2 m3 m4 m5 m6 m7
    have htt : (tx == tx) = true := by simp
    unfold bs
    go_wp2_with fail
    refine (HA.out x7 (L.below hb2)).mono ?_
    rintro e x8 ⟨rfl, hy⟩
    go_wp2
    go_ret
    exact ⟨rfl, hb2.trans (hy.mono hb2.size)⟩
end Go.Proofs.YtgbblpmdoacinaaDoor.instTexts
