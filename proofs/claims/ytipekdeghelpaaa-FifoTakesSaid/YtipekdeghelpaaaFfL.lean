/- Layer 13's law: awake. -/
import Derived.Test.YtipekdeghelpaaaFfE
import Derived.Deep.RegionLawGrows
import Derived.Laws.OwnMore
namespace Go.Proofs.Ytipekdeghelpaaa
open Go.ChangeShapes Go.WideShapes Go.ChangeAt Go.RowKit
set_option linter.unusedVariables false

theorem own : ownKnob Try.prog.godebug = none := by kernel_rfl
theorem laidOut : laidOutB Try.prog = true := by kernel_rfl

theorem u8_bounds {n : Int} (h : (Lit.int .u8 n).wf = true) : 0 ≤ n ∧ n < 256 := by
  simp [Lit.wf, IntKind.min, IntKind.max, IntKind.bits, IntKind.signed] at h; omega

def exA : List En := [⟨1, 0, 0⟩, ⟨2, 0, 0⟩, ⟨1, 1, 0⟩, ⟨2, 1, 0⟩, ⟨3, 1, 0⟩]
def exB : List En := [⟨1, 0, 0⟩, ⟨2, 0, 0⟩, ⟨1, 1, 0⟩, ⟨2, 1, 0⟩, ⟨4, 0, 0⟩, ⟨3, 1, 0⟩]
theorem exA_is : chkV 2 exA = .tuple #[.int .i64 4, .bool false] := by
  have h : checkN 2 exA = 4 := by decide
  unfold chkV
  rw [h]; rfl
theorem exB_is : chkV 2 exB = .tuple #[.int .i64 6, .bool true] := by
  have h : checkN 2 exB = 6 := by decide
  unfold chkV
  rw [h]; rfl
/-- A block of entries as a slice of them. -/
theorem ens_bk {w : World} {B : Nat} {t : TypeId} {l : List En} (h : Bk w B t (ensC l).toArray) : EnS w (some ⟨B, 0, none⟩) l := by
  intro h0
  refine ⟨B, 0, rfl, h.lt, fun k x hk j hj => ?_⟩
  have hkl := (List.getElem?_eq_some_iff.1 hk).1
  rw [Nat.zero_add, h.cell, ← ensC_at hk hj]
  simp

set_option maxHeartbeats 2000000 in
theorem lAwake13 (w : World) : Calls Try.prog 8 #[] w fun e w' => e = .returned (.bool true) ∧ Below w.heap.size w w' := by
  have hb0 := Bk.made w 38 (ensC exA).toArray
  have HC := Lib.hid (fCheck 2 exA (some ⟨w.heap.size, 0, none⟩) 5 _ (ens_bk hb0) (by decide))
  rw [exA_is] at HC
  have HB := Lib.hid hb0
  have HU : Hid (Up w (w.alloc (.cells (ensC exA).toArray 38))) := Lib.hid ((Below.refl _ w).alloc (Nat.le_refl _) _)
  have hlen : exA.length = 5 := rfl
  rw [hlen] at HC
  have he : (ensC exA).toArray = #[.int .i64 1, .int .i64 0, .int .i64 0, .int .i64 2, .int .i64 0, .int .i64 0, .int .i64 1, .int .i64 1, .int .i64 0, .int .i64 2, .int .i64 1, .int .i64 0, .int .i64 3, .int .i64 1, .int .i64 0] := rfl
  rw [he] at HC HB HU
  clear he hb0 hlen
  go_enter Try.func8, Try.ntmps8
  go_upto_region 2 with fail
  generalize w.alloc (.cells #[.int .i64 1, .int .i64 0, .int .i64 0, .int .i64 2, .int .i64 0, .int .i64 0, .int .i64 1, .int .i64 1, .int .i64 0, .int .i64 2, .int .i64 1, .int .i64 0, .int .i64 3, .int .i64 1, .int .i64 0] 38) = y at *
  generalize w.heap.size = g at *
  go_wp2_with fail
  refine HC.out.mono ?_
  rintro e u ⟨rfl, hu⟩
  have hub : Bk u g 38 #[.int .i64 1, .int .i64 0, .int .i64 0, .int .i64 2, .int .i64 0, .int .i64 0, .int .i64 1, .int .i64 1, .int .i64 0, .int .i64 2, .int .i64 1, .int .i64 0, .int .i64 3, .int .i64 1, .int .i64 0] := (hu.block g HB.out.lt).trans HB.out
  have k0 : u.cell? ⟨g, 12, none⟩ = some (.int .i64 3) := hub.cell 12
  have k1 : u.cell? ⟨g, 13, none⟩ = some (.int .i64 1) := hub.cell 13
  have k2 : u.cell? ⟨g, 14, none⟩ = some (.int .i64 0) := hub.cell 14
  go_upto_region 3 with fail
  obtain ⟨i0, hi0, hz0, hz1, hz2⟩ := info_parts entInfo
  have HI := Lib.hid (And.intro hi0 (And.intro hz0 (And.intro hz1 hz2)))
  have HOLD : Hid (∀ b, (some ⟨g, 0, none⟩ : Option Addr) = some b → ∀ (j : Nat) (c : Value), (ensC (exA.take 4))[j]? = some c → (u.drew.alloc (.cells #[.int .i64 4, .int .i64 0, .int .i64 0, .int .i64 3, .int .i64 1, .int .i64 0] 38)).cell? (b.add j) = some c) := Lib.hid (fun b hb j c hj => by
    injection hb with hb
    subst hb
    have h1 := news_bk (Bk.alloc (w := u.drew) hub (.cells #[.int .i64 4, .int .i64 0, .int .i64 0, .int .i64 3, .int .i64 1, .int .i64 0] 38)) j c
    refine h1 ?_
    have hjl := (List.getElem?_eq_some_iff.1 hj).1
    rw [← hj]
    have e : (ensC (exA.take 4)) = (ensC exA).take 12 := rfl
    rw [e, List.getElem?_take, if_pos (by simpa [e, ensC_len, exA] using hjl)]
    rfl)
  have HN := Lib.hid (news_bk (Bk.made u.drew 38 #[.int .i64 4, .int .i64 0, .int .i64 0, .int .i64 3, .int .i64 1, .int .i64 0]))
  have HEND : Hid (∀ w' v', w'.ownsRow (u.drew.alloc (.cells #[.int .i64 4, .int .i64 0, .int .i64 0, .int .i64 3, .int .i64 1, .int .i64 0] 38)).heap.size 38 3 v' (4 + 2) (ensC (exA.take 4) ++ ensC [⟨4, 0, 0⟩, ⟨3, 1, 0⟩]) → (u.drew.alloc (.cells #[.int .i64 4, .int .i64 0, .int .i64 0, .int .i64 3, .int .i64 1, .int .i64 0] 38)).grownBy w' none → (∃ a cap, v' = .slice a 6 cap ∧ EnS w' a exB) ∧ Up w w') := Lib.hid (fun w' v' ho hg => by
    constructor
    · obtain ⟨a, cap, rfl, _⟩ := own_is ho
      exact ⟨a, cap, rfl, ens_own (l := exB) ho rfl⟩
    · have h1 := HU.out.trans (hu.mono HU.out.size)
      exact (h1.drew.alloc h1.drew.size _).trans ((below_of_grown hg).mono (h1.drew.alloc h1.drew.size _).size))
  clear hub hu HU HB HC hi0 hz0 hz1 hz2
  go_region_law (refine step_append_grows rfl (.tmp 18) (.tmp 23) 22 rfl 38 i0 _ 3 24 Try.underlying22 HI.out.1 HI.out.2.1 HI.out.2.2.1 HI.out.2.2.2 rfl (by omega) (some ⟨g, 0, none⟩) 4 4 (ensC (exA.take 4)) (by simp [Act.eval]) (by simp) rfl HOLD.out ⟨u.heap.size, 0, none⟩ 2 2 (ensC [⟨4, 0, 0⟩, ⟨3, 1, 0⟩]) (by simp [Act.eval]) rfl HN.out (ensC_one _) (by omega) (by simp only [maxLen]; omega) (by omega) ?_; intro v' w' hown hgr; obtain ⟨⟨a2, cap2, rfl, hS⟩, hup⟩ := HEND.out w' v' hown hgr)
  all_goals (
    have HC2 := Lib.hid (fCheck 2 exB a2 cap2 w' hS (by decide))
    rw [exB_is] at HC2
    have hlen : exB.length = 6 := rfl
    rw [hlen] at HC2
    have HUP := Lib.hid hup
    clear hown hgr HEND HOLD HN HI hS hlen hup
    go_wp2_with fail
    refine HC2.out.mono ?_
    rintro e w2 ⟨rfl, hw2⟩
    have hfin : Up w w2 := HUP.out.trans (hw2.mono HUP.out.size)
    go_wp2
    go_ret
    exact ⟨rfl, hfin⟩)
end Go.Proofs.Ytipekdeghelpaaa
