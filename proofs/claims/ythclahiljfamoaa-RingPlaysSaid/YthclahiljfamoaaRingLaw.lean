/- What awake (of the statements of layer 3) returns: true. -/
import Derived.Test.YthclahiljfamoaaRingIntB
namespace Go.Proofs.Ythclahiljfamoaa
open Go.ChangeShapes Go.WideShapes Go.ChangeAt Go.RowKit
open RInt in
theorem lAwake (w : World) : Calls Try.prog 7 #[] w fun e w' => e = .returned (.bool true) ∧ w.grownBy w' none := by
  have hN := new_any 2 w
  rw [show held 2 = 2 from rfl] at hN
  go_enter Try.func7, Try.ntmps7
  go_wp2_with fail
  refine hN.mono ?_
  clear hN
  rintro e w1 ⟨rfl, h1, hw1⟩
  have hF : Fresh w w1 w.heap.size none := ⟨hw1, Nat.le_refl _, fun _ e => by cases e⟩
  generalize w.heap.size = p at h1 hF ⊢
  go_wp2_with fail
  refine (put_ok h1 (by simp) 1).mono ?_
  rintro e w2 ⟨og2, rfl, h2, hm2⟩
  go_wp2_with fail
  refine (put_ok h2 (by simp) 2).mono ?_
  rintro e w3 ⟨og3, rfl, h3, hm3⟩
  go_wp2_with fail
  refine (put_no h3 (by simp) 3).mono ?_
  rintro e w4 ⟨rfl, m, rfl⟩
  go_wp2_with fail
  refine (take_ok (h3.draws m)).mono ?_
  rintro e w5 ⟨rfl, h5, hW5⟩
  go_wp2_with fail
  refine (put_ok h5 (by simp) 3).mono ?_
  rintro e w6 ⟨og6, rfl, h6, hm6⟩
  go_wp2_with fail
  refine (len_rg h6).mono ?_
  rintro e w7 ⟨rfl, rfl⟩
  go_wp2
  go_ret
  exact ⟨rfl, (((((hF.moved hm2).moved hm3).draws m).within hW5).moved hm6).1⟩
end Go.Proofs.Ythclahiljfamoaa
