/- The laws' awake; the frame of a law over what the library's variables hold. -/
import Derived.Test.YtgbblpmdoacinaaDoorInstQ
import Derived.Test.YtgbblpmdoacinaaDoorTie
import Derived.Test.YtgbblpmdoacinaaDoorCards
import Derived.Lay
import Derived.Handed
import Derived.ProofKit
import Derived.PinnedBridge
import Derived.SevenTiedAt
import Derived.Shelf.Vars
import Derived.Lib.LaidTab
import Derived.Stop.LaidErr
namespace Go.Proofs.YtgbblpmdoacinaaDoor
open Go.ChangeShapes Go.WideShapes Go.ChangeAt Go.RowKit
set_option linter.unusedVariables false

theorem awakeText : textL ⟨21, 2, 0, 1, 0, 1, 0, 7⟩ = [97, 119, 97, 105, 116, 32, 114, 50, 32, 49, 32, 114, 48, 32, 101, 113, 32, 114, 49, 32, 101, 108, 115, 101, 32, 55] := by
  have e : ∀ n, n < 10 → Lib.decDigits n = [UInt8.ofNat (48 + n)] := fun n h => by rw [Lib.decDigits, dif_pos h]
  have h := join_21_0p 2 0 1 1 7
  rw [show rgw 2 = [114, 50] by unfold rgw; rw [e 2 (by decide)]; rfl, show rgw 0 = [114, 48] by unfold rgw; rw [e 0 (by decide)]; rfl, show rgw 1 = [114, 49] by unfold rgw; rw [e 1 (by decide)]; rfl, e 1 (by decide), e 7 (by decide)] at h
  exact h
theorem awakeParse : parseV [97, 119, 97, 105, 116, 32, 114, 50, 32, 49, 32, 114, 48, 32, 101, 113, 32, 114, 49, 32, 101, 108, 115, 101, 32, 55] = .tuple #[.agg #[.int .i64 21, .int .i64 2, .int .i64 0, .int .i64 1, .int .i64 0, .int .i64 1, .int .u32 0, .int .i64 7], .int .i64 0] := by
  have h := parse_text ⟨21, 2, 0, 1, 0, 1, 0, 7⟩ (by decide) (by decide) (by decide)
  rw [awakeText] at h
  unfold parseV
  rw [h.1, if_pos rfl, h.2]
  rfl

set_option maxHeartbeats 1000000 in
theorem lAwake (w : World) (L : Lb w) : Calls Tryd.prog 11 #[] w fun e w' => e = .returned (.bool true) ∧ Below w.heap.size w w' := by
  have HP := Lib.hid (cParse [97, 119, 97, 105, 116, 32, 114, 50, 32, 49, 32, 114, 48, 32, 101, 113, 32, 114, 49, 32, 101, 108, 115, 101, 32, 55] (by decide) w L)
  have hq := run_eqI ⟨21, 2, 0, 1, 0, 1, 0, 7⟩ ⟨21, 2, 0, 1, 0, 1, 0, 7⟩
  rw [show eqI ⟨21, 2, 0, 1, 0, 1, 0, 7⟩ ⟨21, 2, 0, 1, 0, 1, 0, 7⟩ = true from rfl] at hq
  unfold iv at hq
  simp only at hq
  go_enter Tryd.func11, Tryd.ntmps11
  go_wp2_with fail
  refine HP.out.mono ?_
  rintro e x ⟨rfl, hx⟩
  rw [awakeParse]
  have hI := Ib.made x 21 2 0 1 0 1 0 7
  have hb : Below w.heap.size w (x.alloc (.cells #[.int .i64 21, .int .i64 2, .int .i64 0, .int .i64 1, .int .i64 0, .int .i64 1, .int .u32 0, .int .i64 7] 24)) := hx.alloc hx.size _
  clear hx
  go_wp2_with fail
  generalize hg : x.heap.size = g at *
  clear hg
  generalize x.alloc (.cells #[.int .i64 21, .int .i64 2, .int .i64 0, .int .i64 1, .int .i64 0, .int .i64 1, .int .u32 0, .int .i64 7] 24) = x1 at *
  have HM := Lib.hid (cMemory ⟨21, 2, 0, 1, 0, 1, 0, 7⟩ x1)
  rw [show memB (Ins.op ⟨21, 2, 0, 1, 0, 1, 0, 7⟩) = true from rfl] at HM
  refine HM.out.mono ?_
  rintro e y ⟨rfl, hy⟩
  replace hI := hI.below hy
  replace hb := hb.trans (hy.mono hb.size)
  clear hy HM
  obtain ⟨c0, c1, c2, c3, c4, c5, c6, c7⟩ := hI.cells
  simp only at c0 c1 c2 c3 c4 c5 c6 c7
  go_wp2_with fail
  have H8 := Lib.hid (cRight ⟨21, 2, 0, 1, 0, 1, 0, 7⟩ 8 (by decide) (by decide) y)
  rw [show rightB ⟨21, 2, 0, 1, 0, 1, 0, 7⟩ 8 = true by decide] at H8
  refine H8.out.mono ?_
  rintro e z ⟨rfl, hz⟩
  replace hI := hI.below hz
  replace hb := hb.trans (hz.mono hb.size)
  clear hz H8 c0 c1 c2 c3 c4 c5 c6 c7
  obtain ⟨c0, c1, c2, c3, c4, c5, c6, c7⟩ := hI.cells
  simp only at c0 c1 c2 c3 c4 c5 c6 c7
  go_wp2_with fail
  have H7 := Lib.hid (cRight ⟨21, 2, 0, 1, 0, 1, 0, 7⟩ 7 (by decide) (by decide) z)
  rw [show rightB ⟨21, 2, 0, 1, 0, 1, 0, 7⟩ 7 = false by decide] at H7
  refine H7.out.mono ?_
  rintro e u ⟨rfl, hu⟩
  go_wp2
  go_ret
  exact ⟨rfl, hb.trans (hu.mono hb.size)⟩
end Go.Proofs.YtgbblpmdoacinaaDoor
