/- For any number of threads, any entries and any uint8: FifoBegins returns true: each beginning of a trace is a trace, and how many entries fit is the same, whatever stands behind; no condition. -/
import Derived.Test.YtipekdeghelpaaaFfL
import Derived.WalkKit
import Derived.ProofKit
import Derived.OpenShut
import Derived.ChangeOld
namespace Go.Proofs.Ytipekdeghelpaaa.fifoBegins
open Go.ChangeShapes Go.WideShapes Go.ChangeAt Go.RowKit
set_option linter.unusedVariables false

set_option maxHeartbeats 2000000 in
theorem walk (n : Int) (l : List En) (a : Option Addr) (cap : Nat) (at_ : Int) (w : World) (w0 : (Lit.int .i64 n).wf = true) (S : EnS w a l) (f : ∀ x ∈ l, x.Wf) (hb0 : l.length ≤ maxLen) (hn0 : a = none → cap = 0) (hp : l.length ≤ cap) (w2 : 0 ≤ at_ ∧ at_ < 256) :
    Calls Try.prog 5 #[.int .i64 n, .slice a l.length cap, .int .u8 at_] w fun e w' => e = .returned (.bool true) ∧ Below w.heap.size w w' := by
  have HA := Lib.hid (fun W => lAwake13 W)
  clear f w0
  by_cases h100 : 100 < l.length
  · have d : decide ((l.length : Int) > 100) = true := by simp; omega
    clear h100 hb0
    go_enter Try.func5, Try.ntmps5
    go_wp2_with fail
    refine (HA.out w).mono ?_
    rintro e y ⟨rfl, hy⟩
    go_wp2
    go_ret
    exact ⟨rfl, hy⟩
  have d : decide ((l.length : Int) > 100) = false := by simp; omega
  by_cases h1 : n < 1
  · have d1 : decide (n < 1) = true := by simpa using h1
    clear h100 hb0 h1
    go_enter Try.func5, Try.ntmps5
    go_wp2_with fail
    refine (HA.out w).mono ?_
    rintro e y ⟨rfl, hy⟩
    go_wp2
    go_ret
    exact ⟨rfl, hy⟩
  have d1 : decide (n < 1) = false := by simpa using h1
  by_cases h2 : n > 64
  · have d2 : decide (n > 64) = true := by simpa using h2
    clear h100 hb0 h1 h2
    go_enter Try.func5, Try.ntmps5
    go_wp2_with fail
    refine (HA.out w).mono ?_
    rintro e y ⟨rfl, hy⟩
    go_wp2
    go_ret
    exact ⟨rfl, hy⟩
  have d2 : decide (n > 64) = false := by simpa using h2
  have hn : 1 ≤ n ∧ n ≤ 64 := by omega
  obtain ⟨b, rfl⟩ : ∃ b : Nat, at_ = (b : Int) := ⟨at_.toNat, by omega⟩
  have hck : ∀ m : List En, chkV n m = .tuple #[.int .i64 (checkD n m : Nat), .bool (decide (checkD n m = m.length))] := fun m => by
    unfold chkV checkN
    rw [if_pos hn, decide_eq_true hn, Bool.and_true]
  have HC := Lib.hid (fun W (hW : Below w.heap.size w W) => fCheck n l a cap W (S.below hW) (by omega))
  rw [hck] at HC
  obtain ⟨k, hk, hkl⟩ : ∃ k, k = b % (l.length + 1) ∧ k ≤ l.length := ⟨_, rfl, by have := Nat.mod_lt b (show 0 < l.length + 1 by omega); omega⟩
  have HC2 := Lib.hid (fun W (hW : Below w.heap.size w W) => fCheck n (l.take k) a cap W ((EnS.cut S k).below hW) (by rw [List.length_take]; omega))
  rw [hck, check_take n l k hkl] at HC2
  have hkt : (l.take k).length = k := by rw [List.length_take]; omega
  rw [hkt] at HC2
  have hcl := checkD_le n l
  generalize checkD n l = c at *
  go_enter Try.func5, Try.ntmps5
  go_wp2_with fail
  refine (HC.out w (Below.refl _ _)).mono ?_
  rintro e y ⟨rfl, hy⟩
  clear HC
  obtain ⟨o, ho⟩ : ∃ o, decide (c = l.length) = o := ⟨_, rfl⟩
  have e1 : ((c : Int) == (l.length : Int)) = o := by rw [← ho, Bool.eq_iff_iff, beq_iff_eq, decide_eq_true_iff]; omega
  have e2 : (o != o) = false := by cases o <;> rfl
  have d3 : decide ((c : Int) < 0) = false := decide_eq_false (by omega)
  have d4 : decide ((c : Int) > (l.length : Int)) = false := decide_eq_false (by omega)
  have d4' : decide (l.length < c) = false := decide_eq_false (by omega)
  have d5 : (b : Int) % ((l.length : Int) + 1) = (k : Int) := by rw [hk]; simp
  have d6 : (k : Int) ≤ (cap : Int) := by omega
  rw [ho]
  have hl1 : l.length ≤ 100 := by omega
  clear hck h100 hb0 h1 h2 ho hk
  go_wp2_with fail
  refine (HC2.out y hy).mono ?_
  rintro e y2 ⟨rfl, hy2⟩
  have hyy := hy.trans (hy2.mono hy.size)
  have HY := Lib.hid hyy
  rcases Nat.lt_or_ge c k with hck | hck
  · have e9 : min k c = c := by omega
    rw [e9, decide_eq_false (show ¬ c = k by omega)]
    have g1 : (c : Int) < (k : Int) := by omega
    have g2 : decide ((k : Int) ≤ (c : Int)) = false := decide_eq_false (by omega)
    have g3 : decide (k ≤ c) = false := decide_eq_false (by omega)
    clear e9 hyy hy2 hy HC2 S
    go_wp2_with fail
    refine (HA.out y2).mono ?_
    rintro e y3 ⟨rfl, hy3⟩
    have hfin := HY.out.trans (hy3.mono HY.out.size)
    go_wp2
    go_ret
    exact ⟨rfl, hfin⟩
  · have e9 : min k c = k := by omega
    rw [e9, decide_eq_true rfl]
    have g1 : ¬ (c : Int) < (k : Int) := by omega
    have g1' : ¬ c < k := by omega
    have g2 : decide ((k : Int) ≤ (c : Int)) = true := decide_eq_true (by omega)
    have g3 : decide (k ≤ c) = true := decide_eq_true (by omega)
    clear e9 hyy hy2 hy HC2 S
    go_wp2_with fail
    refine (HA.out y2).mono ?_
    rintro e y3 ⟨rfl, hy3⟩
    have hfin := HY.out.trans (hy3.mono HY.out.size)
    go_wp2
    go_ret
    exact ⟨rfl, hfin⟩
set_option maxRecDepth 100000 in
theorem lifted (os : Os) (started : os.Started) (H : Type) (enc : TypeId × Value → H) :
    ReturnsInHanded {} Try.checked os 5 .any (Rows.fifoBeginsSpec.pre6 enc Try.prog Try.f5 Rows.fifoBeginsRow.domain false) (Rows.fifoBeginsSpec.post enc Try.prog Try.f5 false true false false) := by
  refine returnsInHanded_of_change (C := Try.checked) own started (by kernel_rfl) Try.func5
    (ChangeSpec.witness6 (enc := enc) (C := Try.checked) false ⟨#[], #[.int .i64 0, .slice none 0 0, .int .u8 0], []⟩ 8 (by kernel_rfl) (by kernel_rfl) (by kernel_rfl) (by kernel_rfl)) ?_
  intro W base args ds gs before hval0 hW hcnd _
  have hval : ∀ (j : Nat) t v, Try.f5.params[j]? = some t → args[j]? = some v → Value.okWide Try.prog W .any base t v := hval0
  have hW' := hW
  obtain ⟨p, q, hA0, hV, rfl, hfz, hnd⟩ := hW
  have hA : DataW.TrodAll enc Try.prog W 0 (fun _ => true) true Try.f5.params.toList args.toList ds p := hA0
  rw [Try.params5] at hA hval
  obtain ⟨v0, vs0, d0, ds0, p0, q0, hargs, rfl, rfl, h0, r0⟩ := trodAll_cons hA
  obtain ⟨v1, vs1, d1, ds1, p1, q1, rfl, rfl, rfl, h1, r1⟩ := trodAll_cons r0
  obtain ⟨v2, vs2, d2, ds2, p2, q2, rfl, rfl, rfl, h2, r2⟩ := trodAll_cons r1
  obtain ⟨rfl, rfl, rfl⟩ := trodAll_nil r2
  obtain rfl : args = #[v0, v1, v2] := by cases args; simp_all
  obtain ⟨rfl, rfl⟩ := trodVars_none hV
  obtain ⟨x0, rfl, rfl, rfl, w0⟩ := open_int Try.underlying3 (hval 0 3 v0 rfl rfl) h0
  have k1 := h1
  have lt1 : ∀ x ∈ p1, x.block < W.heap.size := by obtain ⟨m, hm⟩ := k1; exact DataW.trod_lt m _ _ _ hm
  obtain ⟨l1, a1, cap1, rfl, S1, f1, hb1, hn1, hp1⟩ := open_ents2 (hval 1 22 v1 rfl rfl) h1
  obtain ⟨x2, rfl, rfl, rfl, w2⟩ := open_int Try.underlying5 (hval 2 5 v2 rfl rfl) h2
  clear hA0 hval0
  refine (walk x0 l1 a1 cap1 x2 W w0 S1 f1 hb1 hn1 hp1 (u8_bounds w2)).mono fun e W' ⟨he, bel⟩ => ?_
  subst he
  exact ⟨_, rfl, _, _, _, [], _, [], hW', trodAll_mk1 (shut_bool Try.underlying4 _), (trodAll_cons_mk (shut_int Try.underlying3 w0) (trodAll_cons_mk (Below.trod laidOut (by kernel_rfl) (of_decide_eq_true (by kernel_rfl)) k1 bel lt1) (trodAll_cons_mk (shut_int Try.underlying5 w2) trodAll_mk0))), rfl, bel.frame _, fun h => by cases h⟩

theorem over : Rows.fifoBeginsRow.holds Try.pinned (OpenSpec.ofChange Rows.fifoBeginsSpec) :=
  OpenClaim.holds_of_wide 5 Try.f5 rfl rfl rfl rfl rfl rfl rfl ⟨rfl, rfl, rfl, rfl, rfl⟩ rfl rfl rfl rfl rfl (by kernel_rfl) Try.func5 (by kernel_rfl)
    (of_decide_eq_true (by kernel_rfl)) (by unfold Func.isWrapper; first | (rw [if_pos (by decide +kernel)]; kernel_rfl) | (rw [if_neg (by decide +kernel)]; exact ⟨rfl, rfl⟩))
    (fun os started H enc _ => lifted os started H enc)

/-- The statement. -/
theorem proved : Rows.FifoBeginsSaid := over
#print axioms proved
end Go.Proofs.Ytipekdeghelpaaa.fifoBegins
