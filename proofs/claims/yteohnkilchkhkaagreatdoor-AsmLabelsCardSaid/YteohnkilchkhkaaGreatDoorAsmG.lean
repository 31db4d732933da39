/- The laws' awake. -/
import Derived.Test.YteohnkilchkhkaaGreatDoorAsmF
namespace Go.Proofs.YteohnkilchkhkaaGreatDoor
open Go.ChangeShapes Go.WideShapes Go.ChangeAt Go.RowKit
set_option linter.unusedVariables false

def jump0 : Ins := ⟨10, 0, 0, 0, 0, 0, 0, 0⟩
/-- The document's example. -/
def exText : List UInt8 := [108, 111, 99, 107, 58, 10, 100, 111, 110, 101, 32, 49, 10, 117, 110, 108, 111, 99, 107, 58, 10, 106, 117, 109, 112, 32, 108, 111, 99, 107, 10]
def exPrg : Prg := ⟨[done1, jump0], 0, 1⟩
theorem ex_print : printL exPrg = exText := by
  have h1 : insLine exPrg done1 = doneW := by
    unfold insLine
    rw [if_neg (by decide), done_text]
  have h2 : insLine exPrg jump0 = [106, 117, 109, 112, 32, 108, 111, 99, 107] := by decide
  have h3 : labsAt exPrg 0 = [lockW] := by decide
  have h4 : labsAt exPrg (0 + 1) = [unlockW] := by decide
  have e : linesFrom exPrg exPrg.l 0 = (labsAt exPrg 0).map (fun s => s ++ [58]) ++ insLine exPrg done1 :: ((labsAt exPrg (0 + 1)).map (fun s => s ++ [58]) ++ insLine exPrg jump0 :: []) := rfl
  unfold printL
  rw [e, h1, h2, h3, h4]
  rfl
theorem ex_asm : asmL exText = (exPrg, 0, 0) := by
  rw [← ex_print]
  exact asm_print exPrg (by decide) (by decide)

set_option maxHeartbeats 1000000 in
theorem lAwake (w : World) (L : Lb w) : Calls Tryz.prog 6 #[] w fun e w' => e = .returned (.bool true) ∧ Below w.heap.size w w' := by
  have HP := Lib.hid (cAssemble exText (by decide) w L)
  have hq := run_eqI jump0 jump0
  rw [show eqI jump0 jump0 = true from rfl] at hq
  unfold jump0 iv at hq
  simp only at hq
  unfold Asmd at HP
  rw [ex_asm] at HP
  unfold exText bs at HP
  go_enter Tryz.func6, Tryz.ntmps6
  go_wp2_with fail
  refine HP.out.mono ?_
  rintro e x ⟨v, rfl, ⟨sl, rfl, hO⟩, hx⟩
  obtain ⟨a, cap, rfl, hc, hm, hg⟩ := own_is hO
  obtain ⟨g, rfl, _, _, hgl, _, hcs⟩ := hg (by decide)
  have hcw : ∀ j, j < 8 → (x.alloc (.cells #[.slice (some ⟨g, 0, none⟩) 2 cap, .int .i64 0, .int .i64 1] 25)).cell? ⟨g, 8 + j, none⟩ = (insC jump0)[j]? := fun j hj => by
    have h1 := hcs (8 + j) (by show 8 + j < 2 * 8; omega)
    rw [show (progC exPrg.l)[8 + j]? = (insC jump0)[j]? from progC_at (l := exPrg.l) (k := 1) (i := jump0) rfl hj] at h1
    exact (World.cell?_of_block (Below.heap_alloc x _ g hgl)).trans h1
  have hb : Below w.heap.size w (x.alloc (.cells #[.slice (some ⟨g, 0, none⟩) 2 cap, .int .i64 0, .int .i64 1] 25)) := hx.alloc hx.size _
  have hK := Bk.made x 25 #[.slice (some ⟨g, 0, none⟩) 2 cap, .int .i64 0, .int .i64 1]
  rw [show exPrg.l.length = 2 from rfl, show exPrg.lo = 0 from rfl, show exPrg.un = 1 from rfl]
  clear hcs hO HP
  go_upto_region 2 with fail
  generalize x.heap.size = q at *
  generalize x.alloc (.cells #[.slice (some ⟨g, 0, none⟩) 2 cap, .int .i64 0, .int .i64 1] 25) = y at *
  obtain ⟨y0, y1, y2⟩ : y.cell? ⟨q, 0, none⟩ = some (.slice (some ⟨g, 0, none⟩) 2 cap) ∧ y.cell? ⟨q, 1, none⟩ = some (.int .i64 0) ∧ y.cell? ⟨q, 2, none⟩ = some (.int .i64 1) := ⟨hK.cell 0, hK.cell 1, hK.cell 2⟩
  have e0 : y.cell? ⟨g, 8, none⟩ = some (.int .i64 10) := hcw 0 (by omega)
  have e1 : y.cell? ⟨g, 9, none⟩ = some (.int .i64 0) := hcw 1 (by omega)
  have e2 : y.cell? ⟨g, 10, none⟩ = some (.int .i64 0) := hcw 2 (by omega)
  have e3 : y.cell? ⟨g, 11, none⟩ = some (.int .i64 0) := hcw 3 (by omega)
  have e4 : y.cell? ⟨g, 12, none⟩ = some (.int .i64 0) := hcw 4 (by omega)
  have e5 : y.cell? ⟨g, 13, none⟩ = some (.int .i64 0) := hcw 5 (by omega)
  have e6 : y.cell? ⟨g, 14, none⟩ = some (.int .u32 0) := hcw 6 (by omega)
  have e7 : y.cell? ⟨g, 15, none⟩ = some (.int .i64 0) := hcw 7 (by omega)
  clear hcw
  go_wp2
  go_ret
  exact ⟨rfl, hb⟩
end Go.Proofs.YteohnkilchkhkaaGreatDoor
