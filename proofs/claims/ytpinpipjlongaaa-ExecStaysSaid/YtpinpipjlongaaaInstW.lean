/- The document's Right, of any instruction. -/
import Derived.Test.YtpinpipjlongaaaInstSA
import Derived.Test.YtpinpipjlongaaaInstSB
import Derived.Test.YtpinpipjlongaaaInstSC
import Derived.Test.YtpinpipjlongaaaInstSD
import Derived.Test.YtpinpipjlongaaaInstSF
import Derived.Test.YtpinpipjlongaaaInstSG
namespace Go.Proofs.Ytpinpipjlongaaa
open Go.ChangeShapes Go.WideShapes Go.ChangeAt Go.RowKit
set_option linter.unusedVariables false

theorem right_none (i : Ins) (p : Int) (h : nmL i.op = []) : rightB i p = false := by
  obtain ⟨op, d, s, t, u, a, k, pl⟩ := i
  simp only at h
  rcases op_cases op with rfl | rfl | rfl | rfl | rfl | rfl | rfl | rfl | rfl | rfl | rfl | rfl | rfl | rfl | rfl | rfl | rfl | rfl | rfl | rfl | rfl | hn
  rotate_right
  · unfold rightB
    rw [(hs_none hn).1]
    rfl
  all_goals (simp [nmL] at h)

set_option maxRecDepth 100000 in
theorem rRightNone (op d s t u a k pl p : Int) (hnm : nmL op = []) (w : World) :
    Calls Try.prog 27 #[iv ⟨op, d, s, t, u, a, k, pl⟩, .int .i64 p] w fun e w' => e = .returned (.bool false) ∧ Below w.heap.size w w' := by
  have HN := Lib.hid (fun W => rName op W)
  rw [hnm] at HN
  clear hnm
  unfold iv
  go_enter Try.func27, Try.ntmps27
  go_wp2_with fail
  refine (HN.out _).mono ?_
  rintro e x ⟨rfl, hx⟩
  obtain ⟨hJ, hb⟩ := boxedJ hx
  clear hx
  unfold bs
  go_wp2
  go_ret
  exact ⟨rfl, hb⟩

set_option maxHeartbeats 2000000 in
set_option maxRecDepth 100000 in
theorem rRightBadd (op d s t u a k pl p : Int) (hnm : (nmL op).isEmpty = false)  (hbad : d < 0 ∨ 7 < d) (w : World) :
    Calls Try.prog 27 #[iv ⟨op, d, s, t, u, a, k, pl⟩, .int .i64 p] w fun e w' => e = .returned (.bool false) ∧ Below w.heap.size w w' := by
  have HN := Lib.hid (fun W => rName op W)
  generalize nmL op = nm at *
  unfold iv
  go_enter Try.func27, Try.ntmps27
  go_wp2_with fail
  refine (HN.out _).mono ?_
  rintro e x ⟨rfl, hx⟩
  obtain ⟨hJ, hb⟩ := boxedJ hx
  clear hx
  have hlt : w.heap.size < x.heap.size := Bk.lt hJ
  have hne : w.heap.size ≠ x.heap.size := Nat.ne_of_lt hlt
  obtain ⟨c0, c1, c2, c3, c4, c5, c6, c7⟩ := hJ.cells
  simp only at c0 c1 c2 c3 c4 c5 c6 c7
  unfold bs
  go_wp2_with fail
  refine (rRegNo d hbad _).mono ?_
  rintro e w' ⟨rfl, rfl⟩
  go_wp2
  go_ret
  exact ⟨rfl, hb⟩
set_option maxHeartbeats 2000000 in
set_option maxRecDepth 100000 in
theorem rRightBads (op d s t u a k pl p : Int) (hnm : (nmL op).isEmpty = false) (hd : 0 ≤ d ∧ d ≤ 7) (hbad : s < 0 ∨ 7 < s) (w : World) :
    Calls Try.prog 27 #[iv ⟨op, d, s, t, u, a, k, pl⟩, .int .i64 p] w fun e w' => e = .returned (.bool false) ∧ Below w.heap.size w w' := by
  have HN := Lib.hid (fun W => rName op W)
  generalize nmL op = nm at *
  unfold iv
  go_enter Try.func27, Try.ntmps27
  go_wp2_with fail
  refine (HN.out _).mono ?_
  rintro e x ⟨rfl, hx⟩
  obtain ⟨hJ, hb⟩ := boxedJ hx
  clear hx
  have hlt : w.heap.size < x.heap.size := Bk.lt hJ
  have hne : w.heap.size ≠ x.heap.size := Nat.ne_of_lt hlt
  obtain ⟨c0, c1, c2, c3, c4, c5, c6, c7⟩ := hJ.cells
  simp only at c0 c1 c2 c3 c4 c5 c6 c7
  unfold bs
  go_wp2_with fail
  refine (rRegYes d hd.1 hd.2 _).mono ?_
  rintro e w' ⟨rfl, rfl⟩
  go_wp2_with fail
  refine (rRegNo s hbad _).mono ?_
  rintro e w' ⟨rfl, rfl⟩
  go_wp2
  go_ret
  exact ⟨rfl, hb⟩
set_option maxHeartbeats 2000000 in
set_option maxRecDepth 100000 in
theorem rRightBadt (op d s t u a k pl p : Int) (hnm : (nmL op).isEmpty = false) (hd : 0 ≤ d ∧ d ≤ 7) (hs : 0 ≤ s ∧ s ≤ 7) (hbad : t < 0 ∨ 7 < t) (w : World) :
    Calls Try.prog 27 #[iv ⟨op, d, s, t, u, a, k, pl⟩, .int .i64 p] w fun e w' => e = .returned (.bool false) ∧ Below w.heap.size w w' := by
  have HN := Lib.hid (fun W => rName op W)
  generalize nmL op = nm at *
  unfold iv
  go_enter Try.func27, Try.ntmps27
  go_wp2_with fail
  refine (HN.out _).mono ?_
  rintro e x ⟨rfl, hx⟩
  obtain ⟨hJ, hb⟩ := boxedJ hx
  clear hx
  have hlt : w.heap.size < x.heap.size := Bk.lt hJ
  have hne : w.heap.size ≠ x.heap.size := Nat.ne_of_lt hlt
  obtain ⟨c0, c1, c2, c3, c4, c5, c6, c7⟩ := hJ.cells
  simp only at c0 c1 c2 c3 c4 c5 c6 c7
  unfold bs
  go_wp2_with fail
  refine (rRegYes d hd.1 hd.2 _).mono ?_
  rintro e w' ⟨rfl, rfl⟩
  go_wp2_with fail
  refine (rRegYes s hs.1 hs.2 _).mono ?_
  rintro e w' ⟨rfl, rfl⟩
  go_wp2_with fail
  refine (rRegNo t hbad _).mono ?_
  rintro e w' ⟨rfl, rfl⟩
  go_wp2
  go_ret
  exact ⟨rfl, hb⟩
set_option maxHeartbeats 2000000 in
set_option maxRecDepth 100000 in
theorem rRightBadu (op d s t u a k pl p : Int) (hnm : (nmL op).isEmpty = false) (hd : 0 ≤ d ∧ d ≤ 7) (hs : 0 ≤ s ∧ s ≤ 7) (ht : 0 ≤ t ∧ t ≤ 7) (hbad : u < 0 ∨ 7 < u) (w : World) :
    Calls Try.prog 27 #[iv ⟨op, d, s, t, u, a, k, pl⟩, .int .i64 p] w fun e w' => e = .returned (.bool false) ∧ Below w.heap.size w w' := by
  have HN := Lib.hid (fun W => rName op W)
  generalize nmL op = nm at *
  unfold iv
  go_enter Try.func27, Try.ntmps27
  go_wp2_with fail
  refine (HN.out _).mono ?_
  rintro e x ⟨rfl, hx⟩
  obtain ⟨hJ, hb⟩ := boxedJ hx
  clear hx
  have hlt : w.heap.size < x.heap.size := Bk.lt hJ
  have hne : w.heap.size ≠ x.heap.size := Nat.ne_of_lt hlt
  obtain ⟨c0, c1, c2, c3, c4, c5, c6, c7⟩ := hJ.cells
  simp only at c0 c1 c2 c3 c4 c5 c6 c7
  unfold bs
  go_wp2_with fail
  refine (rRegYes d hd.1 hd.2 _).mono ?_
  rintro e w' ⟨rfl, rfl⟩
  go_wp2_with fail
  refine (rRegYes s hs.1 hs.2 _).mono ?_
  rintro e w' ⟨rfl, rfl⟩
  go_wp2_with fail
  refine (rRegYes t ht.1 ht.2 _).mono ?_
  rintro e w' ⟨rfl, rfl⟩
  go_wp2_with fail
  refine (rRegNo u hbad _).mono ?_
  rintro e w' ⟨rfl, rfl⟩
  go_wp2
  go_ret
  exact ⟨rfl, hb⟩
set_option maxHeartbeats 2000000 in
set_option maxRecDepth 100000 in
theorem rRightBada (op d s t u a k pl p : Int) (hnm : (nmL op).isEmpty = false) (hd : 0 ≤ d ∧ d ≤ 7) (hs : 0 ≤ s ∧ s ≤ 7) (ht : 0 ≤ t ∧ t ≤ 7) (hu : 0 ≤ u ∧ u ≤ 7) (hbad : a < 0 ∨ 7 < a) (w : World) :
    Calls Try.prog 27 #[iv ⟨op, d, s, t, u, a, k, pl⟩, .int .i64 p] w fun e w' => e = .returned (.bool false) ∧ Below w.heap.size w w' := by
  have HN := Lib.hid (fun W => rName op W)
  generalize nmL op = nm at *
  unfold iv
  go_enter Try.func27, Try.ntmps27
  go_wp2_with fail
  refine (HN.out _).mono ?_
  rintro e x ⟨rfl, hx⟩
  obtain ⟨hJ, hb⟩ := boxedJ hx
  clear hx
  have hlt : w.heap.size < x.heap.size := Bk.lt hJ
  have hne : w.heap.size ≠ x.heap.size := Nat.ne_of_lt hlt
  obtain ⟨c0, c1, c2, c3, c4, c5, c6, c7⟩ := hJ.cells
  simp only at c0 c1 c2 c3 c4 c5 c6 c7
  unfold bs
  go_wp2_with fail
  refine (rRegYes d hd.1 hd.2 _).mono ?_
  rintro e w' ⟨rfl, rfl⟩
  go_wp2_with fail
  refine (rRegYes s hs.1 hs.2 _).mono ?_
  rintro e w' ⟨rfl, rfl⟩
  go_wp2_with fail
  refine (rRegYes t ht.1 ht.2 _).mono ?_
  rintro e w' ⟨rfl, rfl⟩
  go_wp2_with fail
  refine (rRegYes u hu.1 hu.2 _).mono ?_
  rintro e w' ⟨rfl, rfl⟩
  go_wp2_with fail
  refine (rRegNo a hbad _).mono ?_
  rintro e w' ⟨rfl, rfl⟩
  go_wp2
  go_ret
  exact ⟨rfl, hb⟩

theorem rRight (i : Ins) (p : Int) (k0 : 0 ≤ i.k) (k1 : i.k < 4294967296) (w : World) :
    Calls Try.prog 27 #[iv i, .int .i64 p] w fun e w' => e = .returned (.bool (rightB i p)) ∧ Below w.heap.size w w' := by
  by_cases hnm : nmL i.op = []
  · rw [right_none i p hnm]
    exact rRightNone i.op i.d i.s i.t i.u i.a i.k i.pl p hnm w
  have hne : (nmL i.op).isEmpty = false := by simpa using hnm
  have no : ¬ ((0 ≤ i.d ∧ i.d ≤ 7) ∧ (0 ≤ i.s ∧ i.s ≤ 7) ∧ (0 ≤ i.t ∧ i.t ≤ 7) ∧ (0 ≤ i.u ∧ i.u ≤ 7) ∧ (0 ≤ i.a ∧ i.a ≤ 7)) → rightB i p = false := by
    intro h
    rw [Bool.eq_false_iff]
    exact fun e => h (right_regs i p e)
  obtain ⟨op, d, s, t, u, a, k, pl⟩ := i
  simp only at k0 k1 hnm hne no
  by_cases hd : 0 ≤ d ∧ d ≤ 7
  · by_cases hs : 0 ≤ s ∧ s ≤ 7
    · by_cases ht : 0 ≤ t ∧ t ≤ 7
      · by_cases hu : 0 ≤ u ∧ u ≤ 7
        · by_cases ha : 0 ≤ a ∧ a ≤ 7
          · clear no
            by_cases hrRightA : op = 1 ∨ op = 10 ∨ op = 11 ∨ op = 22 ∨ op = 12 ∨ op = 13 ∨ op = 23
            · exact rRightA op d s t u a k pl p hrRightA ⟨hd, hs, ht, hu, ha⟩ k0 k1 w
            by_cases hrRightC : op = 2 ∨ op = 3 ∨ op = 4 ∨ op = 7
            · exact rRightC op d s t u a k pl p hrRightC ⟨hd, hs, ht, hu, ha⟩ k0 k1 w
            by_cases hrRightD : op = 5 ∨ op = 6 ∨ op = 8 ∨ op = 9
            · exact rRightD op d s t u a k pl p hrRightD ⟨hd, hs, ht, hu, ha⟩ k0 k1 w
            by_cases hrRightF : op = 16 ∨ op = 18
            · exact rRightF op d s t u a k pl p hrRightF ⟨hd, hs, ht, hu, ha⟩ k0 k1 w
            by_cases hrRightG : op = 17 ∨ op = 19
            · exact rRightG op d s t u a k pl p hrRightG ⟨hd, hs, ht, hu, ha⟩ k0 k1 w
            by_cases hrRightB : op = 20 ∨ op = 21
            · exact rRightB op d s t u a k pl p hrRightB ⟨hd, hs, ht, hu, ha⟩ k0 k1 w
            exfalso; apply hnm; exact (hs_none (by omega)).2
          · rw [no (by omega)]; exact rRightBada op d s t u a k pl p hne hd hs ht hu (by omega) w
        · rw [no (by omega)]; exact rRightBadu op d s t u a k pl p hne hd hs ht (by omega) w
      · rw [no (by omega)]; exact rRightBadt op d s t u a k pl p hne hd hs (by omega) w
    · rw [no (by omega)]; exact rRightBads op d s t u a k pl p hne hd (by omega) w
  · rw [no (by omega)]; exact rRightBadd op d s t u a k pl p hne (by omega) w
end Go.Proofs.Ytpinpipjlongaaa
