/- For any number of threads and any entries: FifoChecks returns true: how many entries fit, from the first one on, is what the document says; no condition. -/
import Derived.Test.YtipekdeghelpaaaFfL
import Derived.Test.YtipekdeghelpaaaFfS
import Derived.WalkKit
import Derived.ProofKit
import Derived.OpenShut
import Derived.ChangeOld
namespace Go.Proofs.Ytipekdeghelpaaa.fifoChecks
open Go.ChangeShapes Go.WideShapes Go.ChangeAt Go.RowKit
set_option linter.unusedVariables false

set_option maxHeartbeats 2000000 in
theorem walk (n : Int) (l : List En) (a : Option Addr) (cap : Nat) (w : World) (w0 : (Lit.int .i64 n).wf = true) (S : EnS w a l) (f : ∀ x ∈ l, x.Wf) (hb0 : l.length ≤ maxLen) (hn0 : a = none → cap = 0) (hp : l.length ≤ cap) :
    Calls Try.prog 3 #[.int .i64 n, .slice a l.length cap] w fun e w' => e = .returned (.bool true) ∧ Below w.heap.size w w' := by
  have HA := Lib.hid (fun W => lAwake13 W)
  clear f w0 hn0 hp
  by_cases h80 : 80 < l.length
  · have d : decide ((l.length : Int) > 80) = true := decide_eq_true (by omega)
    have d' : decide (80 < l.length) = true := decide_eq_true h80
    clear h80 hb0
    go_enter Try.func3, Try.ntmps3
    go_wp2_with fail
    refine (HA.out w).mono ?_
    rintro e y ⟨rfl, hy⟩
    go_wp2
    go_ret
    exact ⟨rfl, hy⟩
  have d : decide ((l.length : Int) > 80) = false := decide_eq_false (by omega)
  have d' : decide (80 < l.length) = false := decide_eq_false h80
  have HC := Lib.hid (fun W (hW : Below w.heap.size w W) => fCheck n l a cap W (S.below hW) (by omega))
  have HRf := Lib.hid (fun W (hW : Below w.heap.size w W) => lRef12 l a cap W (S.below hW) (by omega))
  have HD := Lib.hid (fun a1 cap1 W (S1 : EnS W a1 l) (h1 : l.length ≤ cap1) (h2 : cap1 ≤ maxLen) => rCheck n l a1 cap1 W S1 h1 h2 (by omega))
  unfold chkV at HC
  generalize checkN n l = c at *
  obtain ⟨o, ho⟩ : ∃ o, (decide (c = l.length) && decide (1 ≤ n ∧ n ≤ 64)) = o := ⟨_, rfl⟩
  rw [ho] at HC
  have HO := Lib.hid ho
  clear ho hb0 h80
  go_enter Try.func3, Try.ntmps3
  go_wp2_with fail
  refine (HC.out w (Below.refl _ _)).mono ?_
  rintro e y ⟨rfl, hy⟩
  clear HC
  go_wp2_with fail
  refine (HRf.out y hy).mono ?_
  rintro e y2 ⟨v, rfl, hO, hy2⟩
  obtain ⟨a1, cap1, rfl, k1, k2, hS1⟩ := hO.is
  have hb2 := hy.trans (hy2.mono hy.size)
  clear HRf
  go_wp2_with fail
  refine (HD.out a1 cap1 y2 hS1 k1 k2).mono ?_
  rintro e y3 ⟨rfl, hy3⟩
  have hb3 := hb2.trans (hy3.mono hb2.size)
  have HB := Lib.hid hb3
  have e1 : ((c : Int) == (c : Int)) = true := by simp
  clear HD hO hS1 hb2 hy hy2 hy3 hb3 k1 k2 S
  by_cases hc : c = l.length
  · have e2 : ((c : Int) == (l.length : Int)) = true := by rw [beq_iff_eq]; omega
    by_cases h1 : n ≥ 1
    · have e3 : decide (n ≥ 1) = true := decide_eq_true h1
      by_cases h2 : n ≤ 64
      · have e4 : decide (n ≤ 64) = true := decide_eq_true h2
        have ho : o = true := by rw [← HO.out, decide_eq_true hc, decide_eq_true ⟨h1, h2⟩]; rfl
        subst ho
        clear HO hc h1 h2
        go_wp2_with fail
        refine (HA.out y3).mono ?_
        rintro e y4 ⟨rfl, hy4⟩
        have hfin := HB.out.trans (hy4.mono HB.out.size)
        go_wp2
        go_ret
        exact ⟨rfl, hfin⟩
      · have e4 : decide (n ≤ 64) = false := decide_eq_false h2
        have ho : o = false := by rw [← HO.out, decide_eq_false (fun (h : 1 ≤ n ∧ n ≤ 64) => h2 h.2), Bool.and_false]
        subst ho
        clear HO hc h1 h2
        go_wp2_with fail
        refine (HA.out y3).mono ?_
        rintro e y4 ⟨rfl, hy4⟩
        have hfin := HB.out.trans (hy4.mono HB.out.size)
        go_wp2
        go_ret
        exact ⟨rfl, hfin⟩
    · have e3 : decide (n ≥ 1) = false := decide_eq_false h1
      have ho : o = false := by rw [← HO.out, decide_eq_false (fun (h : 1 ≤ n ∧ n ≤ 64) => h1 h.1), Bool.and_false]
      subst ho
      clear HO hc h1
      go_wp2_with fail
      refine (HA.out y3).mono ?_
      rintro e y4 ⟨rfl, hy4⟩
      have hfin := HB.out.trans (hy4.mono HB.out.size)
      go_wp2
      go_ret
      exact ⟨rfl, hfin⟩
  · have e2 : ((c : Int) == (l.length : Int)) = false := beq_eq_false_iff_ne.2 (by omega)
    have ho : o = false := by rw [← HO.out, decide_eq_false hc, Bool.false_and]
    subst ho
    clear HO hc
    go_wp2_with fail
    refine (HA.out y3).mono ?_
    rintro e y4 ⟨rfl, hy4⟩
    have hfin := HB.out.trans (hy4.mono HB.out.size)
    go_wp2
    go_ret
    exact ⟨rfl, hfin⟩
set_option maxRecDepth 100000 in
theorem lifted (os : Os) (started : os.Started) (H : Type) (enc : TypeId × Value → H) :
    ReturnsInHanded {} Try.checked os 3 .any (Rows.fifoChecksSpec.pre6 enc Try.prog Try.f3 Rows.fifoChecksRow.domain false) (Rows.fifoChecksSpec.post enc Try.prog Try.f3 false true false false) := by
  refine returnsInHanded_of_change (C := Try.checked) own started (by kernel_rfl) Try.func3
    (ChangeSpec.witness6 (enc := enc) (C := Try.checked) false ⟨#[], #[.int .i64 0, .slice none 0 0], []⟩ 8 (by kernel_rfl) (by kernel_rfl) (by kernel_rfl) (by kernel_rfl)) ?_
  intro W base args ds gs before hval0 hW hcnd _
  have hval : ∀ (j : Nat) t v, Try.f3.params[j]? = some t → args[j]? = some v → Value.okWide Try.prog W .any base t v := hval0
  have hW' := hW
  obtain ⟨p, q, hA0, hV, rfl, hfz, hnd⟩ := hW
  have hA : DataW.TrodAll enc Try.prog W 0 (fun _ => true) true Try.f3.params.toList args.toList ds p := hA0
  rw [Try.params3] at hA hval
  obtain ⟨v0, vs0, d0, ds0, p0, q0, hargs, rfl, rfl, h0, r0⟩ := trodAll_cons hA
  obtain ⟨v1, vs1, d1, ds1, p1, q1, rfl, rfl, rfl, h1, r1⟩ := trodAll_cons r0
  obtain ⟨rfl, rfl, rfl⟩ := trodAll_nil r1
  obtain rfl : args = #[v0, v1] := by cases args; simp_all
  obtain ⟨rfl, rfl⟩ := trodVars_none hV
  obtain ⟨x0, rfl, rfl, rfl, w0⟩ := open_int Try.underlying3 (hval 0 3 v0 rfl rfl) h0
  have k1 := h1
  have lt1 : ∀ x ∈ p1, x.block < W.heap.size := by obtain ⟨m, hm⟩ := k1; exact DataW.trod_lt m _ _ _ hm
  obtain ⟨l1, a1, cap1, rfl, S1, f1, hb1, hn1, hp1⟩ := open_ents2 (hval 1 22 v1 rfl rfl) h1
  clear hA0 hval0
  refine (walk x0 l1 a1 cap1 W w0 S1 f1 hb1 hn1 hp1).mono fun e W' ⟨he, bel⟩ => ?_
  subst he
  exact ⟨_, rfl, _, _, _, [], _, [], hW', trodAll_mk1 (shut_bool Try.underlying4 _), (trodAll_cons_mk (shut_int Try.underlying3 w0) (trodAll_cons_mk (Below.trod laidOut (by kernel_rfl) (of_decide_eq_true (by kernel_rfl)) k1 bel lt1) trodAll_mk0)), rfl, bel.frame _, fun h => by cases h⟩

theorem over : Rows.fifoChecksRow.holds Try.pinned (OpenSpec.ofChange Rows.fifoChecksSpec) :=
  OpenClaim.holds_of_wide 3 Try.f3 rfl rfl rfl rfl rfl rfl rfl ⟨rfl, rfl, rfl, rfl, rfl⟩ rfl rfl rfl rfl rfl (by kernel_rfl) Try.func3 (by kernel_rfl)
    (of_decide_eq_true (by kernel_rfl)) (by unfold Func.isWrapper; first | (rw [if_pos (by decide +kernel)]; kernel_rfl) | (rw [if_neg (by decide +kernel)]; exact ⟨rfl, rfl⟩))
    (fun os started H enc _ => lifted os started H enc)

/-- The statement. -/
theorem proved : Rows.FifoChecksSaid := over
#print axioms proved
end Go.Proofs.Ytipekdeghelpaaa.fifoChecks
