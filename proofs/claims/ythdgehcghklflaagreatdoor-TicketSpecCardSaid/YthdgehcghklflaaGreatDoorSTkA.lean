/- TkA, TkG. -/
import Derived.Test.YthdgehcghklflaaGreatDoorSTkD
import Derived.Test.YthdgehcghklflaaGreatDoorSAsmM
import Derived.Test.YthdgehcghklflaaGreatDoorSAsmF
import Derived.Test.YthdgehcghklflaaGreatDoorSAsmRb
import Derived.Test.YthdgehcghklflaaGreatDoorSPrgM
/- Both Specs of the ticket lock, for any number of threads; the law's awake. -/
namespace Go.Proofs.YthdgehcghklflaaGreatDoor
set_option maxRecDepth 100000
open Go.ChangeShapes Go.WideShapes Go.ChangeAt Go.RowKit
set_option linter.unusedVariables false

theorem tk_asmC (w : World) (L : Lb w) : Calls Tryz.prog 27 #[bs tkText] w (AsmC w) := by
  have h := cAssemble tkText tk_small w L
  unfold Asmd at h
  rw [tk_asm] at h
  exact h
theorem tk_asmD (w : World) : Calls Tryz.prog 28 #[bs tkText] w (AsmD w) := by
  have h := rAssemble tkText tk_small w
  unfold Asmr at h
  rw [tk_asm] at h
  refine h.mono ?_
  rintro e w' ⟨v, h1, ⟨sl, rfl, ho⟩, h3⟩
  exact ⟨sl, h1, ho, h3⟩
theorem cSpec (N : Nat) (st : Int) (w : World) (L : Lb w) (h1 : 1 ≤ N) (h64 : N ≤ 64) (h0 : 0 ≤ st) (h2 : st < 4294967296) :
    Calls Tryz.prog 8 #[.int .i64 N, .int .u32 st] w fun e w' => ∃ v, e = .returned (.tuple #[v, .int .i64 0]) ∧ Sv w' v tkP [1, 1] [st, st] (tkR N) 0 ∧ Below w.heap.size w w' :=
  cSpecW N st w h1 h64 h0 h2 (fun W hW => tk_asmC W (L.below hW))
theorem rSpec (N : Nat) (st : Int) (w : World) (h1 : 1 ≤ N) (h64 : N ≤ 64) (h0 : 0 ≤ st) (h2 : st < 4294967296) :
    Calls Tryz.prog 9 #[.int .i64 N, .int .u32 st] w fun e w' => ∃ v, e = .returned (.tuple #[v, .bool true]) ∧ Rv w.heap.size w' v tkP [1, 1] [st, st] (tkR N) 0 ∧ Below w.heap.size w w' :=
  rSpecW N st w h1 h64 h0 h2 tk_asmD
def spZ : Value := .agg #[.slice none 0 0, .int .i64 0, .int .i64 0, .slice none 0 0, .slice none 0 0, .int .i64 0, .slice none 0 0]
theorem cSpecNo (n st : Int) (w : World) (hn : ¬ (1 ≤ n ∧ n ≤ 64)) :
    Calls Tryz.prog 8 #[.int .i64 n, .int .u32 st] w fun e w' => e = .returned (.tuple #[spZ, .int .i64 5]) ∧ Below w.heap.size w w' := by
  have b0 : Below w.heap.size w (w.alloc (.cells #[.slice none 0 0, .int .i64 0, .int .i64 0, .slice none 0 0, .slice none 0 0, .int .i64 0, .slice none 0 0] 29)) := (Below.refl _ _).alloc (Nat.le_refl _) _
  unfold spZ
  have q0 := Bk.made w 29 #[.slice none 0 0, .int .i64 0, .int .i64 0, .slice none 0 0, .slice none 0 0, .int .i64 0, .slice none 0 0]
  by_cases h1 : n < 1
  · go_enter Tryz.func8, Tryz.ntmps8
    go_upto_region 2 with fail
    generalize w.alloc (.cells #[.slice none 0 0, .int .i64 0, .int .i64 0, .slice none 0 0, .slice none 0 0, .int .i64 0, .slice none 0 0] 29) = y at *
    have KK := Lib.hid (And.intro (put7_bk q0 (.slice none 0 0) (.int .i64 0) (.int .i64 0) (.slice none 0 0) (.slice none 0 0) (.int .i64 0) (.slice none 0 0)) (put7_below b0 (Nat.le_refl _) (.slice none 0 0) (.int .i64 0) (.int .i64 0) (.slice none 0 0) (.slice none 0 0) (.int .i64 0) (.slice none 0 0)))
    obtain ⟨y0, y1, y2, y3, y4, y5, y6⟩ : y.cell? ⟨w.heap.size, 0, none⟩ = some (.slice none 0 0) ∧ y.cell? ⟨w.heap.size, 1, none⟩ = some (.int .i64 0) ∧ y.cell? ⟨w.heap.size, 2, none⟩ = some (.int .i64 0) ∧ y.cell? ⟨w.heap.size, 3, none⟩ = some (.slice none 0 0) ∧ y.cell? ⟨w.heap.size, 4, none⟩ = some (.slice none 0 0) ∧ y.cell? ⟨w.heap.size, 5, none⟩ = some (.int .i64 0) ∧ y.cell? ⟨w.heap.size, 6, none⟩ = some (.slice none 0 0) := ⟨q0.cell 0, q0.cell 1, q0.cell 2, q0.cell 3, q0.cell 4, q0.cell 5, q0.cell 6⟩
    have zf := Bk.free q0
    clear q0 b0
    go_wp
    clear y0 y1 y2 y3 y4 y5 y6 zf
    generalize hv : (((((((y.setCell ⟨w.heap.size, 0, none⟩ (.slice none 0 0)).setCell ⟨w.heap.size, 1, none⟩ (.int .i64 0)).setCell ⟨w.heap.size, 2, none⟩ (.int .i64 0)).setCell ⟨w.heap.size, 3, none⟩ (.slice none 0 0)).setCell ⟨w.heap.size, 4, none⟩ (.slice none 0 0)).setCell ⟨w.heap.size, 5, none⟩ (.int .i64 0)).setCell ⟨w.heap.size, 6, none⟩ (.slice none 0 0)) = x9
    replace hv : put7 y w.heap.size (.slice none 0 0) (.int .i64 0) (.int .i64 0) (.slice none 0 0) (.slice none 0 0) (.int .i64 0) (.slice none 0 0) = x9 := hv
    rw [hv] at KK
    obtain ⟨hq, b9⟩ := KK.out
    obtain ⟨y0, y1, y2, y3, y4, y5, y6⟩ : x9.cell? ⟨w.heap.size, 0, none⟩ = some (.slice none 0 0) ∧ x9.cell? ⟨w.heap.size, 1, none⟩ = some (.int .i64 0) ∧ x9.cell? ⟨w.heap.size, 2, none⟩ = some (.int .i64 0) ∧ x9.cell? ⟨w.heap.size, 3, none⟩ = some (.slice none 0 0) ∧ x9.cell? ⟨w.heap.size, 4, none⟩ = some (.slice none 0 0) ∧ x9.cell? ⟨w.heap.size, 5, none⟩ = some (.int .i64 0) ∧ x9.cell? ⟨w.heap.size, 6, none⟩ = some (.slice none 0 0) := ⟨hq.cell 0, hq.cell 1, hq.cell 2, hq.cell 3, hq.cell 4, hq.cell 5, hq.cell 6⟩
    exact bodyPost_ret (v := .tuple #[.agg #[.slice none 0 0, .int .i64 0, .int .i64 0, .slice none 0 0, .slice none 0 0, .int .i64 0, .slice none 0 0], .int .i64 5]) (by simp [results, Tryz.results8, go_sem, y0, y1, y2, y3, y4, y5, y6]) rfl ⟨rfl, b9⟩
  · have h2 : 64 < n := by omega
    clear hn
    go_enter Tryz.func8, Tryz.ntmps8
    go_upto_region 2 with fail
    generalize w.alloc (.cells #[.slice none 0 0, .int .i64 0, .int .i64 0, .slice none 0 0, .slice none 0 0, .int .i64 0, .slice none 0 0] 29) = y at *
    have KK := Lib.hid (And.intro (put7_bk q0 (.slice none 0 0) (.int .i64 0) (.int .i64 0) (.slice none 0 0) (.slice none 0 0) (.int .i64 0) (.slice none 0 0)) (put7_below b0 (Nat.le_refl _) (.slice none 0 0) (.int .i64 0) (.int .i64 0) (.slice none 0 0) (.slice none 0 0) (.int .i64 0) (.slice none 0 0)))
    obtain ⟨y0, y1, y2, y3, y4, y5, y6⟩ : y.cell? ⟨w.heap.size, 0, none⟩ = some (.slice none 0 0) ∧ y.cell? ⟨w.heap.size, 1, none⟩ = some (.int .i64 0) ∧ y.cell? ⟨w.heap.size, 2, none⟩ = some (.int .i64 0) ∧ y.cell? ⟨w.heap.size, 3, none⟩ = some (.slice none 0 0) ∧ y.cell? ⟨w.heap.size, 4, none⟩ = some (.slice none 0 0) ∧ y.cell? ⟨w.heap.size, 5, none⟩ = some (.int .i64 0) ∧ y.cell? ⟨w.heap.size, 6, none⟩ = some (.slice none 0 0) := ⟨q0.cell 0, q0.cell 1, q0.cell 2, q0.cell 3, q0.cell 4, q0.cell 5, q0.cell 6⟩
    have zf := Bk.free q0
    clear q0 b0
    go_wp
    clear y0 y1 y2 y3 y4 y5 y6 zf
    generalize hv : (((((((y.setCell ⟨w.heap.size, 0, none⟩ (.slice none 0 0)).setCell ⟨w.heap.size, 1, none⟩ (.int .i64 0)).setCell ⟨w.heap.size, 2, none⟩ (.int .i64 0)).setCell ⟨w.heap.size, 3, none⟩ (.slice none 0 0)).setCell ⟨w.heap.size, 4, none⟩ (.slice none 0 0)).setCell ⟨w.heap.size, 5, none⟩ (.int .i64 0)).setCell ⟨w.heap.size, 6, none⟩ (.slice none 0 0)) = x9
    replace hv : put7 y w.heap.size (.slice none 0 0) (.int .i64 0) (.int .i64 0) (.slice none 0 0) (.slice none 0 0) (.int .i64 0) (.slice none 0 0) = x9 := hv
    rw [hv] at KK
    obtain ⟨hq, b9⟩ := KK.out
    obtain ⟨y0, y1, y2, y3, y4, y5, y6⟩ : x9.cell? ⟨w.heap.size, 0, none⟩ = some (.slice none 0 0) ∧ x9.cell? ⟨w.heap.size, 1, none⟩ = some (.int .i64 0) ∧ x9.cell? ⟨w.heap.size, 2, none⟩ = some (.int .i64 0) ∧ x9.cell? ⟨w.heap.size, 3, none⟩ = some (.slice none 0 0) ∧ x9.cell? ⟨w.heap.size, 4, none⟩ = some (.slice none 0 0) ∧ x9.cell? ⟨w.heap.size, 5, none⟩ = some (.int .i64 0) ∧ x9.cell? ⟨w.heap.size, 6, none⟩ = some (.slice none 0 0) := ⟨hq.cell 0, hq.cell 1, hq.cell 2, hq.cell 3, hq.cell 4, hq.cell 5, hq.cell 6⟩
    exact bodyPost_ret (v := .tuple #[.agg #[.slice none 0 0, .int .i64 0, .int .i64 0, .slice none 0 0, .slice none 0 0, .int .i64 0, .slice none 0 0], .int .i64 5]) (by simp [results, Tryz.results8, go_sem, y0, y1, y2, y3, y4, y5, y6]) rfl ⟨rfl, b9⟩
theorem rSpecNo (n st : Int) (w : World) (hn : ¬ (1 ≤ n ∧ n ≤ 64)) :
    Calls Tryz.prog 9 #[.int .i64 n, .int .u32 st] w fun e w' => e = .returned (.tuple #[spZ, .bool false]) ∧ Below w.heap.size w w' := by
  have b0 : Below w.heap.size w (w.alloc (.cells #[.slice none 0 0, .int .i64 0, .int .i64 0, .slice none 0 0, .slice none 0 0, .int .i64 0, .slice none 0 0] 37)) := (Below.refl _ _).alloc (Nat.le_refl _) _
  unfold spZ
  have q0 := Bk.made w 37 #[.slice none 0 0, .int .i64 0, .int .i64 0, .slice none 0 0, .slice none 0 0, .int .i64 0, .slice none 0 0]
  by_cases h1 : n < 1
  · go_enter Tryz.func9, Tryz.ntmps9
    go_upto_region 2 with fail
    generalize w.alloc (.cells #[.slice none 0 0, .int .i64 0, .int .i64 0, .slice none 0 0, .slice none 0 0, .int .i64 0, .slice none 0 0] 37) = y at *
    have KK := Lib.hid (And.intro (put7_bk q0 (.slice none 0 0) (.int .i64 0) (.int .i64 0) (.slice none 0 0) (.slice none 0 0) (.int .i64 0) (.slice none 0 0)) (put7_below b0 (Nat.le_refl _) (.slice none 0 0) (.int .i64 0) (.int .i64 0) (.slice none 0 0) (.slice none 0 0) (.int .i64 0) (.slice none 0 0)))
    obtain ⟨y0, y1, y2, y3, y4, y5, y6⟩ : y.cell? ⟨w.heap.size, 0, none⟩ = some (.slice none 0 0) ∧ y.cell? ⟨w.heap.size, 1, none⟩ = some (.int .i64 0) ∧ y.cell? ⟨w.heap.size, 2, none⟩ = some (.int .i64 0) ∧ y.cell? ⟨w.heap.size, 3, none⟩ = some (.slice none 0 0) ∧ y.cell? ⟨w.heap.size, 4, none⟩ = some (.slice none 0 0) ∧ y.cell? ⟨w.heap.size, 5, none⟩ = some (.int .i64 0) ∧ y.cell? ⟨w.heap.size, 6, none⟩ = some (.slice none 0 0) := ⟨q0.cell 0, q0.cell 1, q0.cell 2, q0.cell 3, q0.cell 4, q0.cell 5, q0.cell 6⟩
    have zf := Bk.free q0
    clear q0 b0
    go_wp
    clear y0 y1 y2 y3 y4 y5 y6 zf
    generalize hv : (((((((y.setCell ⟨w.heap.size, 0, none⟩ (.slice none 0 0)).setCell ⟨w.heap.size, 1, none⟩ (.int .i64 0)).setCell ⟨w.heap.size, 2, none⟩ (.int .i64 0)).setCell ⟨w.heap.size, 3, none⟩ (.slice none 0 0)).setCell ⟨w.heap.size, 4, none⟩ (.slice none 0 0)).setCell ⟨w.heap.size, 5, none⟩ (.int .i64 0)).setCell ⟨w.heap.size, 6, none⟩ (.slice none 0 0)) = x9
    replace hv : put7 y w.heap.size (.slice none 0 0) (.int .i64 0) (.int .i64 0) (.slice none 0 0) (.slice none 0 0) (.int .i64 0) (.slice none 0 0) = x9 := hv
    rw [hv] at KK
    obtain ⟨hq, b9⟩ := KK.out
    obtain ⟨y0, y1, y2, y3, y4, y5, y6⟩ : x9.cell? ⟨w.heap.size, 0, none⟩ = some (.slice none 0 0) ∧ x9.cell? ⟨w.heap.size, 1, none⟩ = some (.int .i64 0) ∧ x9.cell? ⟨w.heap.size, 2, none⟩ = some (.int .i64 0) ∧ x9.cell? ⟨w.heap.size, 3, none⟩ = some (.slice none 0 0) ∧ x9.cell? ⟨w.heap.size, 4, none⟩ = some (.slice none 0 0) ∧ x9.cell? ⟨w.heap.size, 5, none⟩ = some (.int .i64 0) ∧ x9.cell? ⟨w.heap.size, 6, none⟩ = some (.slice none 0 0) := ⟨hq.cell 0, hq.cell 1, hq.cell 2, hq.cell 3, hq.cell 4, hq.cell 5, hq.cell 6⟩
    exact bodyPost_ret (v := .tuple #[.agg #[.slice none 0 0, .int .i64 0, .int .i64 0, .slice none 0 0, .slice none 0 0, .int .i64 0, .slice none 0 0], .bool false]) (by simp [results, Tryz.results9, go_sem, y0, y1, y2, y3, y4, y5, y6]) rfl ⟨rfl, b9⟩
  · have h2 : 64 < n := by omega
    clear hn
    go_enter Tryz.func9, Tryz.ntmps9
    go_upto_region 2 with fail
    generalize w.alloc (.cells #[.slice none 0 0, .int .i64 0, .int .i64 0, .slice none 0 0, .slice none 0 0, .int .i64 0, .slice none 0 0] 37) = y at *
    have KK := Lib.hid (And.intro (put7_bk q0 (.slice none 0 0) (.int .i64 0) (.int .i64 0) (.slice none 0 0) (.slice none 0 0) (.int .i64 0) (.slice none 0 0)) (put7_below b0 (Nat.le_refl _) (.slice none 0 0) (.int .i64 0) (.int .i64 0) (.slice none 0 0) (.slice none 0 0) (.int .i64 0) (.slice none 0 0)))
    obtain ⟨y0, y1, y2, y3, y4, y5, y6⟩ : y.cell? ⟨w.heap.size, 0, none⟩ = some (.slice none 0 0) ∧ y.cell? ⟨w.heap.size, 1, none⟩ = some (.int .i64 0) ∧ y.cell? ⟨w.heap.size, 2, none⟩ = some (.int .i64 0) ∧ y.cell? ⟨w.heap.size, 3, none⟩ = some (.slice none 0 0) ∧ y.cell? ⟨w.heap.size, 4, none⟩ = some (.slice none 0 0) ∧ y.cell? ⟨w.heap.size, 5, none⟩ = some (.int .i64 0) ∧ y.cell? ⟨w.heap.size, 6, none⟩ = some (.slice none 0 0) := ⟨q0.cell 0, q0.cell 1, q0.cell 2, q0.cell 3, q0.cell 4, q0.cell 5, q0.cell 6⟩
    have zf := Bk.free q0
    clear q0 b0
    go_wp
    clear y0 y1 y2 y3 y4 y5 y6 zf
    generalize hv : (((((((y.setCell ⟨w.heap.size, 0, none⟩ (.slice none 0 0)).setCell ⟨w.heap.size, 1, none⟩ (.int .i64 0)).setCell ⟨w.heap.size, 2, none⟩ (.int .i64 0)).setCell ⟨w.heap.size, 3, none⟩ (.slice none 0 0)).setCell ⟨w.heap.size, 4, none⟩ (.slice none 0 0)).setCell ⟨w.heap.size, 5, none⟩ (.int .i64 0)).setCell ⟨w.heap.size, 6, none⟩ (.slice none 0 0)) = x9
    replace hv : put7 y w.heap.size (.slice none 0 0) (.int .i64 0) (.int .i64 0) (.slice none 0 0) (.slice none 0 0) (.int .i64 0) (.slice none 0 0) = x9 := hv
    rw [hv] at KK
    obtain ⟨hq, b9⟩ := KK.out
    obtain ⟨y0, y1, y2, y3, y4, y5, y6⟩ : x9.cell? ⟨w.heap.size, 0, none⟩ = some (.slice none 0 0) ∧ x9.cell? ⟨w.heap.size, 1, none⟩ = some (.int .i64 0) ∧ x9.cell? ⟨w.heap.size, 2, none⟩ = some (.int .i64 0) ∧ x9.cell? ⟨w.heap.size, 3, none⟩ = some (.slice none 0 0) ∧ x9.cell? ⟨w.heap.size, 4, none⟩ = some (.slice none 0 0) ∧ x9.cell? ⟨w.heap.size, 5, none⟩ = some (.int .i64 0) ∧ x9.cell? ⟨w.heap.size, 6, none⟩ = some (.slice none 0 0) := ⟨hq.cell 0, hq.cell 1, hq.cell 2, hq.cell 3, hq.cell 4, hq.cell 5, hq.cell 6⟩
    exact bodyPost_ret (v := .tuple #[.agg #[.slice none 0 0, .int .i64 0, .int .i64 0, .slice none 0 0, .slice none 0 0, .int .i64 0, .slice none 0 0], .bool false]) (by simp [results, Tryz.results9, go_sem, y0, y1, y2, y3, y4, y5, y6]) rfl ⟨rfl, b9⟩
set_option maxHeartbeats 1000000 in
theorem lAwake14 (w : World) (L : Lb w) : Calls Tryz.prog 12 #[] w fun e w' => e = .returned (.bool true) ∧ Below w.heap.size w w' := by
  have HP := Lib.hid (cSpec 2 5 w L (by decide) (by decide) (by decide) (by decide))
  go_enter Tryz.func12, Tryz.ntmps12
  go_wp2_with fail
  refine HP.out.mono ?_
  rintro e x ⟨v, rfl, ⟨aL, cL, aS, cS, aI, cI, aR, cR, rfl, -⟩, hx⟩
  have hb : Below w.heap.size w (x.alloc (.cells #[.slice aL tkP.l.length cL, .int .i64 tkP.lo, .int .i64 tkP.un, .slice aS 2 cS, .slice aI 2 cI, .int .i64 0, .slice aR 2 cR] 29)) := hx.alloc hx.size _
  have hK := Bk.made x 29 #[.slice aL tkP.l.length cL, .int .i64 tkP.lo, .int .i64 tkP.un, .slice aS 2 cS, .slice aI 2 cI, .int .i64 0, .slice aR 2 cR]
  rw [show tkP.l.length = 9 from rfl, show tkP.lo = 0 from rfl, show tkP.un = 5 from rfl] at *
  rw [show ([1, 1] : List Int).length = 2 from rfl, show ([5, 5] : List Int).length = 2 from rfl, show (tkR 2).length = 2 from rfl]
  clear HP hx
  go_upto_region 2 with fail
  generalize x.heap.size = q at *
  generalize x.alloc (.cells #[.slice aL 9 cL, .int .i64 0, .int .i64 5, .slice aS 2 cS, .slice aI 2 cI, .int .i64 0, .slice aR 2 cR] 29) = y at *
  obtain ⟨y0, y6⟩ : y.cell? ⟨q, 0, none⟩ = some (.slice aL 9 cL) ∧ y.cell? ⟨q, 6, none⟩ = some (.slice aR 2 cR) := ⟨hK.cell 0, hK.cell 6⟩
  clear hK
  go_wp2
  go_ret
  exact ⟨rfl, hb⟩
end Go.Proofs.YthdgehcghklflaaGreatDoor

/- Specs to be compared. -/
namespace Go.Proofs.YthdgehcghklflaaGreatDoor
set_option maxRecDepth 100000
open Go.ChangeShapes Go.WideShapes Go.ChangeAt Go.RowKit
set_option linter.unusedVariables false

theorem Rv.spv {base : Nat} {w : World} {v : Value} {c : Prg} {zs init r7 : List Int} {each : Int} (h : Rv base w v c zs init r7 each) : SpV w v c zs init r7 each := by
  obtain ⟨sl, aS, cS, aI, cI, aR, cR, rfl, h1, h2, h3, h4, h5⟩ := h
  obtain ⟨aL, cL, rfl, -⟩ := own_is h1
  exact ⟨aL, cL, aS, cS, aI, cI, aR, cR, rfl, own_pv h1, h2, h3, h4, h5⟩
theorem SpV.below {w w' : World} {v : Value} {c : Prg} {zs init r7 : List Int} {each : Int} (h : SpV w v c zs init r7 each) (hb : Below w.heap.size w w') : SpV w' v c zs init r7 each := by
  obtain ⟨aL, cL, aS, cS, aI, cI, aR, cR, e, h1, h2, h3, h4, h5⟩ := h
  exact ⟨aL, cL, aS, cS, aI, cI, aR, cR, e, h1.below hb, h2.below hb, h3.below hb, h4.below hb, h5⟩
theorem pv_zero (w : World) : Pv w (.agg #[.slice none 0 0, .int .i64 0, .int .i64 0]) Prg.zero := ⟨none, 0, rfl, by simp [Prg.zero], by simp, fun _ => rfl, fun h => by simp [Prg.zero] at h⟩
theorem given_nil0 (k : IntKind) (w : World) (a : Option Addr) : Given k w a [] := fun h => by simp at h
theorem sv_zero (w : World) : Sv w spZ Prg.zero [] [] [] 0 := ⟨none, 0, none, 0, none, 0, none, 0, rfl, pv_zero w, given_nil0 _ _ _, given_nil0 _ _ _, given_nil0 _ _ _, by simp, by simp, by simp⟩
theorem spv_zero (w : World) : SpV w spZ Prg.zero [] [] [] 0 := ⟨none, 0, none, 0, none, 0, none, 0, rfl, pv_zero w, given_nil0 _ _ _, given_nil0 _ _ _, given_nil0 _ _ _, by simp, by simp, by simp⟩
/-- Specs alike. -/
theorem same_spec (w : World) (v u : Value) (c : Prg) (zs init r7 : List Int) (each : Int) (hv : SpV w v c zs init r7 each) (hu : SpV w u c zs init r7 each) (hc : c.l.length ≤ 100000) :
    Calls Tryz.prog 10 #[v, u] w fun e w' => e = .returned (.bool true) ∧ Below w.heap.size w w' := by
  have h := rSameSpec w v u c c zs init r7 zs init r7 each each hv hu hc
  rw [decide_eq_true rfl, decide_eq_true rfl, decide_eq_true rfl, decide_eq_true rfl, (sameP_iff c c).2 rfl] at h
  exact h
end Go.Proofs.YthdgehcghklflaaGreatDoor
