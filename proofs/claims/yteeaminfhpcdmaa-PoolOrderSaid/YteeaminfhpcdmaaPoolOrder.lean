/- For every two uint8: PoolOrder returns true, so a thread's nodes go out in the order in which they came back, each with the next generation; no condition. -/
import Derived.Test.YteeaminfhpcdmaaPoolOne
import Derived.WalkKit
import Derived.ProofKit
import Derived.OpenShut
import Derived.ChangeOld
namespace Go.Proofs.Yteeaminfhpcdmaa.poolOrder
open Go.ChangeShapes Go.WideShapes Go.ChangeAt Go.RowKit
set_option linter.unusedVariables false

theorem own : ownKnob Try.prog.godebug = none := by kernel_rfl
theorem laidOut : laidOutB Try.prog = true := by kernel_rfl

theorem u8_bounds {n : Int} (h : (Lit.int .u8 n).wf = true) : 0 ≤ n ∧ n < 256 := by
  simp [Lit.wf, IntKind.min, IntKind.max, IntKind.bits, IntKind.signed] at h; omega
theorem flip {P : Program} {f : FuncId} {args : Array Value} {w : World} {X : Ending} (h : Calls P f args w fun e w' => e = X ∧ w = w') : Calls P f args w fun e w' => e = X ∧ w' = w := h.mono fun _ _ ⟨a, b⟩ => ⟨a, b.symm⟩

theorem aIndex (k i : Nat) (h1 : 1 ≤ k) (h8 : k ≤ 8) (hi : i ≤ 1000) (W : World) :
    Calls Try.prog 16 #[.int .u32 (hd k i)] W fun e w' => e = .returned (.int .i64 (1 + ((i % k : Nat) : Int))) ∧ w' = W := by
  obtain ⟨f1, f2, f3, f4, f5, f6⟩ := hd_facts k i h1 h8 hi
  have := flip (rIndex (hd k i) (by omega) f2 W)
  rw [show hd k i % 4096 = 1 + ((i % k : Nat) : Int) by rw [f3]; omega] at this
  exact this
theorem aGen (k i : Nat) (h1 : 1 ≤ k) (h8 : k ≤ 8) (hi : i ≤ 1000) (W : World) :
    Calls Try.prog 21 #[.int .u32 (hd k i)] W fun e w' => e = .returned (.int .i64 ((i / k : Nat) : Int)) ∧ w' = W := by
  obtain ⟨f1, f2, f3, f4, f5, f6⟩ := hd_facts k i h1 h8 hi
  have := flip (rGen (hd k i) (by omega) f2 W)
  rw [f4] at this
  exact this

/-- At each round's head: i turns are done; nothing that was there has changed. -/
def Rel (w : World) (p k i : Nat) (wr : World) : Prop := ∃ M, At wr p k M i ∧ w.grownBy wr none ∧ ∀ b, M.Has 1 b → w.heap.size ≤ b

set_option maxHeartbeats 1000000 in
set_option maxRecDepth 100000 in
theorem walkN (x0 x1 : Nat) (w : World) (w0 : x0 < 256) (w1 : x1 < 256) :
    Calls Try.prog 6 #[.int .u8 x0, .int .u8 x1] w fun e w' => e = .returned (.bool true) ∧ Below w.heap.size w w' := by
  obtain ⟨k, hk, hk1, hk8⟩ : ∃ k : Nat, 1 + (x0 : Int) % 8 = k ∧ 1 ≤ k ∧ k ≤ 8 := ⟨1 + x0 % 8, by omega, by omega, by omega⟩
  obtain ⟨n, hn, hn1⟩ : ∃ n : Nat, (x1 : Int) % 101 = n ∧ n ≤ 100 := ⟨x1 % 101, by omega, by omega⟩
  have HK := Lib.hid hk
  have HN := Lib.hid hn
  clear hk hn
  go_enter Try.func6, Try.ntmps6
  go_wp2_with fail
  rw [HK.out]
  refine (tNew k hk8 w).mono ?_
  rintro e a1 ⟨p, M, rfl, h1, hg, hM⟩
  rw [HN.out]
  go_wp2
  go_loopw [31] (fun j wr => ∃ i : Nat, i ≤ n ∧ j = .int .i64 i ∧ Rel w p k i wr) (fun i _ => n - (intOf i).toNat)
  case atStart => exact ⟨0, Nat.zero_le _, rfl, M, h1, hg, hM⟩
  case round =>
    obtain ⟨i, hi, rfl, M, hA, hw, hM⟩ := hrel
    by_cases hlt : i < n
    · go_wp2_with fail
      refine (tTake hA hk1 hk8 (by omega)).mono ?_
      rintro e w2 ⟨M2, rfl, hm2, s2⟩
      obtain ⟨g2, m2⟩ := stays_grown hw hM s2
      clear hA hw hM s2
      have hkz : ¬ (k : Int) = 0 := by omega
      have hkz1 : ¬ k = 0 := by omega
      have hkz2 : ((k : Int) == 0) = false := by simp; omega
      have q4 : (i : Int) % (k : Int) = ((i % k : Nat) : Int) := by simp
      have q5 : (i : Int) / (k : Int) = ((i / k : Nat) : Int) := by simp
      have q1 : (i : Int).tmod (k : Int) = ((i % k : Nat) : Int) := by rw [← Int.ofNat_tmod]
      have q2 : (i : Int).tdiv (k : Int) = ((i / k : Nat) : Int) := by rw [← Int.ofNat_tdiv]
      have q3 : i % k < k := Nat.mod_lt _ hk1
      have q8 : i / k ≤ i := Nat.div_le_self _ _
      have HI := Lib.hid (aIndex k i hk1 hk8 (by omega))
      have HG := Lib.hid (aGen k i hk1 hk8 (by omega))
      have HO := Lib.hid (fun m => tOut1 (hm2.drewN m) hk1)
      generalize i % k = m at *
      generalize i / k = g at *
      have q6 : IntKind.i64.wrap (1 + (m : Int)) = 1 + (m : Int) := IntWalk.i64_in _ (by omega)
      have q7 : IntKind.i64.wrap (g : Int) = (g : Int) := IntWalk.i64_in _ (by omega)
      go_wp2
      go_quiet (first | (go_at_call 16; exact Calls.quiet_of_same (HI.out _)) | (go_at_call 21; exact Calls.quiet_of_same (HG.out _)) | (go_at_call 19; exact Calls.quiet_of (HO.out _)))
      clear q1 q2 q3 q4 q5 q6 q7 q8 hkz hkz1 hkz2 HI HG HO
      go_wp2_with fail
      refine (tFree (hm2.drewN _) hk1 hk8 (by omega)).mono ?_
      rintro e w3 ⟨M3, rfl, ha3, s3⟩
      obtain ⟨g3, m3⟩ := stays_grown (grown_draws g2 _) m2 s3
      clear s3 g2 m2 hm2
      go_wp2_with fail
      refine (tOut0 ha3).mono ?_
      rintro e w4 ⟨rfl, m', rfl⟩
      go_wp2
      go_roundw
      case rel => exact ⟨i + 1, by omega, by go_num, M3, ha3.drewN _, grown_draws g3 _, m3⟩
      case measure => simp [intOf]; omega
    · obtain rfl : i = n := by omega
      go_wp2_with fail
      refine (lAwake _).mono ?_
      rintro e a6 ⟨rfl, hw6⟩
      go_wp2
      go_ret
      exact ⟨rfl, below_of_grown (grown_then hw hw6 (.inl rfl))⟩

theorem walk (x0 x1 : Int) (w : World) (w0 : (Lit.int .u8 x0).wf = true) (w1 : (Lit.int .u8 x1).wf = true) :
    Calls Try.prog 6 #[.int .u8 x0, .int .u8 x1] w fun e w' => e = .returned (.bool true) ∧ Below w.heap.size w w' := by
  obtain ⟨a0, b0⟩ := u8_bounds w0
  obtain ⟨a1, b1⟩ := u8_bounds w1
  obtain ⟨y0, rfl⟩ := Int.eq_ofNat_of_zero_le a0
  obtain ⟨y1, rfl⟩ := Int.eq_ofNat_of_zero_le a1
  exact walkN y0 y1 w (by omega) (by omega)

set_option maxRecDepth 100000 in
theorem lifted (os : Os) (started : os.Started) (H : Type) (enc : TypeId × Value → H) :
    ReturnsInHanded {} Try.checked os 6 .any (Rows.poolOrderSpec.pre6 enc Try.prog Try.f6 Rows.poolOrderRow.domain false) (Rows.poolOrderSpec.post enc Try.prog Try.f6 false true false false) := by
  refine returnsInHanded_of_change (C := Try.checked) own started (by kernel_rfl) Try.func6
    (ChangeSpec.witness6 (enc := enc) (C := Try.checked) false ⟨#[], #[.int .u8 0, .int .u8 0], []⟩ 8 (by kernel_rfl) (by kernel_rfl) (by kernel_rfl) (by kernel_rfl)) ?_
  intro W base args ds gs before hval0 hW hcnd _
  have hval : ∀ (j : Nat) t v, Try.f6.params[j]? = some t → args[j]? = some v → Value.okWide Try.prog W .any base t v := hval0
  have hW' := hW
  obtain ⟨p, q, hA0, hV, rfl, hfz, hnd⟩ := hW
  have hA : DataW.TrodAll enc Try.prog W 0 (fun _ => true) true Try.f6.params.toList args.toList ds p := hA0
  rw [Try.params6] at hA hval
  obtain ⟨v0, vs0, d0, ds0, p0, q0, hargs, rfl, rfl, h0, r0⟩ := trodAll_cons hA
  obtain ⟨v1, vs1, d1, ds1, p1, q1, rfl, rfl, rfl, h1, r1⟩ := trodAll_cons r0
  obtain ⟨rfl, rfl, rfl⟩ := trodAll_nil r1
  obtain rfl : args = #[v0, v1] := by cases args; simp_all
  obtain ⟨rfl, rfl⟩ := trodVars_none hV
  obtain ⟨x0, rfl, rfl, rfl, w0⟩ := open_int Try.underlying5 (hval 0 5 v0 rfl rfl) h0
  obtain ⟨x1, rfl, rfl, rfl, w1⟩ := open_int Try.underlying5 (hval 1 5 v1 rfl rfl) h1
  clear hA0 hval0
  refine (walk x0 x1 W w0 w1).mono fun e W' ⟨he, bel⟩ => ?_
  subst he
  exact ⟨_, rfl, _, _, _, [], _, [], hW', trodAll_mk1 (shut_bool Try.underlying4 _), (trodAll_cons_mk (shut_int Try.underlying5 w0) (trodAll_cons_mk (shut_int Try.underlying5 w1) trodAll_mk0)), rfl, bel.frame _, fun h => by cases h⟩

theorem over : Rows.poolOrderRow.holds Try.pinned (OpenSpec.ofChange Rows.poolOrderSpec) :=
  OpenClaim.holds_of_wide 6 Try.f6 rfl rfl rfl rfl rfl rfl rfl ⟨rfl, rfl, rfl, rfl, rfl⟩ rfl rfl rfl rfl rfl (by kernel_rfl) Try.func6 (by kernel_rfl)
    (of_decide_eq_true (by kernel_rfl)) (by unfold Func.isWrapper; first | (rw [if_pos (by decide +kernel)]; kernel_rfl) | (rw [if_neg (by decide +kernel)]; exact ⟨rfl, rfl⟩))
    (fun os started H enc _ => lifted os started H enc)

/-- The statement. -/
theorem proved : Rows.PoolOrderSaid := over
#print axioms proved
end Go.Proofs.Yteeaminfhpcdmaa.poolOrder
