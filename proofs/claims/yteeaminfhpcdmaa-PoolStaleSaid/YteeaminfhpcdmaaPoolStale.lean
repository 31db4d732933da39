/- For every two uint8: PoolStale returns true, so a handle that came back is refused, however often its node goes out and comes back behind that; no condition. -/
import Derived.Test.YteeaminfhpcdmaaPoolOne
import Derived.Test.YteeaminfhpcdmaaLst
import Derived.WalkKit
import Derived.ProofKit
import Derived.OpenShut
import Derived.ChangeOld
namespace Go.Proofs.Yteeaminfhpcdmaa.poolStale
open Go.ChangeShapes Go.WideShapes Go.ChangeAt Go.RowKit
set_option linter.unusedVariables false

theorem own : ownKnob Try.prog.godebug = none := by kernel_rfl
theorem laidOut : laidOutB Try.prog = true := by kernel_rfl

theorem u8_bounds {n : Int} (h : (Lit.int .u8 n).wf = true) : 0 ≤ n ∧ n < 256 := by
  simp [Lit.wf, IntKind.min, IntKind.max, IntKind.bits, IntKind.signed] at h; omega

/-- The handles that went out in the first i turns. -/
def olds (k i : Nat) : List Int := (List.range i).map (hd k)
theorem olds_len (k i : Nat) : (olds k i).length = i := by simp [olds]
theorem olds_succ (k i : Nat) : olds k i ++ [hd k i] = olds k (i + 1) := by simp [olds, List.range_succ]
theorem olds_at (k i j : Nat) (h : j < i) : nth (olds k i) j = hd k j := by simp [olds, nth, h]

/-- At each round's head: i turns are done, their handles are in the slice v; nothing that was there has changed. -/
def Rel (w : World) (p k i : Nat) (v : Value) (wr : World) : Prop :=
  ∃ M, At wr p k M i ∧ w.grownBy wr none ∧ (∀ b, M.Has 1 b → w.heap.size ≤ b) ∧ Lst .u32 31 wr v (olds k i) ∧ ∀ g, v.ownBlock = some g → w.heap.size ≤ g ∧ ¬ M.Has 1 g

theorem At.apart {w : World} {p k i b : Nat} {M : PM} {cs : Array Value} (h : At w p k M i) (hb : Bk w b 31 cs) : b ≠ p ∧ b ≠ M.g := by
  obtain ⟨fr, os, h1, h2, h3⟩ := h
  exact ⟨Bk.unlike hb h3.ptr (by decide), Bk.unlike hb h3.row (by decide)⟩

set_option maxHeartbeats 1000000 in
set_option maxRecDepth 100000 in
theorem walkN (x0 x1 : Nat) (w : World) (w0 : x0 < 256) (w1 : x1 < 256) :
    Calls Try.prog 4 #[.int .u8 x0, .int .u8 x1] w fun e w' => e = .returned (.bool true) ∧ Below w.heap.size w w' := by
  obtain ⟨k, hk, hk1, hk8⟩ : ∃ k : Nat, 1 + (x0 : Int) % 8 = k ∧ 1 ≤ k ∧ k ≤ 8 := ⟨1 + x0 % 8, by omega, by omega, by omega⟩
  obtain ⟨n, hn, hn1⟩ : ∃ n : Nat, (x1 : Int) % 200 = n ∧ n ≤ 199 := ⟨x1 % 200, by omega, by omega⟩
  have HK := Lib.hid hk
  have HN := Lib.hid hn
  clear hk hn
  go_enter Try.func4, Try.ntmps4
  go_wp2_with fail
  rw [HK.out]
  refine (tNew k hk8 w).mono ?_
  rintro e a1 ⟨p, M, rfl, h1, hg, hM⟩
  go_wp2
  rw [HN.out]
  go_loopw [8, 31] (fun x j wr => ∃ (i : Nat) (v : Value), i ≤ n ∧ j = .int .i64 i ∧ x = v ∧ Rel w p k i v wr) (fun _ i _ => n - (intOf i).toNat)
  case atStart => exact ⟨0, _, Nat.zero_le _, rfl, rfl, M, h1, hg, hM, Lst.nil _ _ _, fun g e => by cases e⟩
  case round =>
    obtain ⟨i, v, hi, rfl, rfl, M, hA, hw, hM, hL, hB⟩ := hrel
    generalize u8 = v at *
    by_cases hlt : i < n
    · obtain ⟨f1, f2, f3, f4, f5, f6⟩ := hd_facts k i hk1 hk8 (by omega)
      have t1 : (hd k i == 0) = false := by simp; omega
      clear f3 f4 f5 f6
      go_wp2_with fail
      refine (tTake hA hk1 hk8 (by omega)).mono ?_
      rintro e w2 ⟨M2, rfl, hm2, s2⟩
      have hL2 := hL.within s2.2.1 (fun g e => (hB g e).2)
      have hB2 : ∀ g, v.ownBlock = some g → w.heap.size ≤ g ∧ ¬ M2.Has 1 g := fun g e => ⟨(hB g e).1, fun e' => by
        rcases s2.2.2 g e' with e' | e'
        · exact (hB g e).2 e'
        · have := hL.lt e; omega⟩
      obtain ⟨g2, m2⟩ := stays_grown hw hM s2
      clear hA hw hM s2 hL hB
      go_wp2_with fail
      refine (tFree hm2 hk1 hk8 (by omega)).mono ?_
      rintro e w3 ⟨M3, rfl, ha3, s3⟩
      have hL3 := hL2.within s3.2.1 (fun g e => (hB2 g e).2)
      have hB3 : ∀ g, v.ownBlock = some g → w.heap.size ≤ g ∧ ¬ M3.Has 1 g := fun g e => ⟨(hB2 g e).1, fun e' => by
        rcases s3.2.2 g e' with e' | e'
        · exact (hB2 g e).2 e'
        · have := hL2.lt e; omega⟩
      obtain ⟨g3, m3⟩ := stays_grown g2 m2 s3
      clear hm2 g2 m2 s3 hL2 hB2
      go_wp2_with (first | (at_builtin; refine wpLstApp rfl _ _ 30 rfl 4 Try.underlying30 u32info (by omega) hL3 rfl (hd k i) rfl (by rw [olds_len]; omega) ?_; intro v4 w4 hL4 g4 hloc4) | go_in)
      rw [olds_succ] at hL4
      have ha4 : At w4 p k M3 (i + 1) := by
        refine ha3.kept (S := fun b => v.ownBlock = some b) (.of_grown g4 (fun i e => .inl e)) (fun b e => ?_)
        obtain ⟨cs, hbk⟩ := hL3.bk e
        exact ⟨(hB3 b e).2, At.apart ha3 hbk⟩
      have hB4 : ∀ g, v4.ownBlock = some g → w.heap.size ≤ g ∧ ¬ M3.Has 1 g := fun g e => by
        rcases hloc4 with e4 | e4
        · exact hB3 g (by rw [← e4]; exact e)
        · rw [e4] at e
          injection e with e
          subst e
          have := g3.size
          exact ⟨by omega, fun e' => by have := ha3.lt e'; omega⟩
      have g5 : w.grownBy w4 none := grown_then g3 g4 (by
        cases hv : v.ownBlock with
        | none => exact .inl rfl
        | some g => exact .inr fun x e => by injection e with e; subst e; exact (hB3 _ hv).1)
      clear ha3 g3 hL3 hB3 g4 hloc4
      go_wp2
      go_roundw
      case rel => exact ⟨i + 1, v4, by omega, by go_num, rfl, M3, ha4, g5, m3, hL4, hB4⟩
      case measure => simp [intOf]; omega
    · obtain rfl : i = n := by omega
      obtain ⟨a, cap, rfl, hcap, hcm, hat⟩ := hL.is
      rw [olds_len] at *
      clear hB
      go_wp2
      go_loopw [57] (fun j wr' => ∃ q m : Nat, q ≤ i ∧ j = .int .i64 q ∧ wr' = wr.drewN m) (fun j _ => i - (intOf j).toNat)
      case atStart => exact ⟨0, 0, Nat.zero_le _, rfl, rfl⟩
      case round =>
        obtain ⟨q, m, hq, rfl, rfl⟩ := hrel
        have hAm := hA.drewN m
        by_cases hqi : q < i
        · obtain ⟨g, rfl, _, hfz, hcell⟩ := hat (by omega)
          have hc : (wr.drewN m).cell? ⟨g, q, none⟩ = some (.int .u32 (hd k q)) := by
            have := hcell q hqi
            rw [olds_at k i q hqi] at this
            exact this
          obtain ⟨f1, f2, f3, f4, f5, f6⟩ := hd_facts k q hk1 hk8 (by omega)
          clear f3 f4 f5 f6 hcell hat hfz hL
          generalize hwm : wr.drewN m = wm at hAm hc ⊢
          have HW := Lib.hid hwm
          clear hwm
          go_wp2_with fail
          refine (tIs hAm (hd k q) (by omega) f2).mono ?_
          rintro e w2 ⟨rfl, rfl⟩
          go_wp2_with fail
          refine (tFreeNo hAm (hd k q) f1 f2).mono ?_
          rintro e w2 ⟨rfl, m2, rfl⟩
          go_wp2
          go_roundw
          case rel => exact ⟨q + 1, m + m2, by omega, by go_num, by rw [← HW.out, World.drewN_drewN]⟩
          case measure => simp [intOf]; omega
        · obtain rfl : q = i := by omega
          have hwm := grown_draws hw m
          generalize wr.drewN m = wm at hAm hwm ⊢
          go_wp2_with fail
          refine (tTotal hAm).mono ?_
          rintro e w2 ⟨rfl, rfl⟩
          go_wp2_with fail
          refine (tOut0 hAm).mono ?_
          rintro e w2 ⟨rfl, m2, rfl⟩
          go_wp2_with fail
          refine (lAwake _).mono ?_
          rintro e a6 ⟨rfl, hw6⟩
          go_wp2
          go_ret
          exact ⟨rfl, below_of_grown (grown_then (grown_draws hwm m2) hw6 (.inl rfl))⟩

theorem walk (x0 x1 : Int) (w : World) (w0 : (Lit.int .u8 x0).wf = true) (w1 : (Lit.int .u8 x1).wf = true) :
    Calls Try.prog 4 #[.int .u8 x0, .int .u8 x1] w fun e w' => e = .returned (.bool true) ∧ Below w.heap.size w w' := by
  obtain ⟨a0, b0⟩ := u8_bounds w0
  obtain ⟨a1, b1⟩ := u8_bounds w1
  obtain ⟨y0, rfl⟩ := Int.eq_ofNat_of_zero_le a0
  obtain ⟨y1, rfl⟩ := Int.eq_ofNat_of_zero_le a1
  exact walkN y0 y1 w (by omega) (by omega)

set_option maxRecDepth 100000 in
theorem lifted (os : Os) (started : os.Started) (H : Type) (enc : TypeId × Value → H) :
    ReturnsInHanded {} Try.checked os 4 .any (Rows.poolStaleSpec.pre6 enc Try.prog Try.f4 Rows.poolStaleRow.domain false) (Rows.poolStaleSpec.post enc Try.prog Try.f4 false true false false) := by
  refine returnsInHanded_of_change (C := Try.checked) own started (by kernel_rfl) Try.func4
    (ChangeSpec.witness6 (enc := enc) (C := Try.checked) false ⟨#[], #[.int .u8 0, .int .u8 0], []⟩ 8 (by kernel_rfl) (by kernel_rfl) (by kernel_rfl) (by kernel_rfl)) ?_
  intro W base args ds gs before hval0 hW hcnd _
  have hval : ∀ (j : Nat) t v, Try.f4.params[j]? = some t → args[j]? = some v → Value.okWide Try.prog W .any base t v := hval0
  have hW' := hW
  obtain ⟨p, q, hA0, hV, rfl, hfz, hnd⟩ := hW
  have hA : DataW.TrodAll enc Try.prog W 0 (fun _ => true) true Try.f4.params.toList args.toList ds p := hA0
  rw [Try.params4] at hA hval
  obtain ⟨v0, vs0, d0, ds0, p0, q0, hargs, rfl, rfl, h0, r0⟩ := trodAll_cons hA
  obtain ⟨v1, vs1, d1, ds1, p1, q1, rfl, rfl, rfl, h1, r1⟩ := trodAll_cons r0
  obtain ⟨rfl, rfl, rfl⟩ := trodAll_nil r1
  obtain rfl : args = #[v0, v1] := by cases args; simp_all
  obtain ⟨rfl, rfl⟩ := trodVars_none hV
  obtain ⟨x0, rfl, rfl, rfl, w0⟩ := open_int Try.underlying5 (hval 0 5 v0 rfl rfl) h0
  obtain ⟨x1, rfl, rfl, rfl, w1⟩ := open_int Try.underlying5 (hval 1 5 v1 rfl rfl) h1
  clear hA0 hval0
  refine (walk x0 x1 W w0 w1).mono fun e W' ⟨he, bel⟩ => ?_
  subst he
  exact ⟨_, rfl, _, _, _, [], _, [], hW', trodAll_mk1 (shut_bool Try.underlying4 _), (trodAll_cons_mk (shut_int Try.underlying5 w0) (trodAll_cons_mk (shut_int Try.underlying5 w1) trodAll_mk0)), rfl, bel.frame _, fun h => by cases h⟩

theorem over : Rows.poolStaleRow.holds Try.pinned (OpenSpec.ofChange Rows.poolStaleSpec) :=
  OpenClaim.holds_of_wide 4 Try.f4 rfl rfl rfl rfl rfl rfl rfl ⟨rfl, rfl, rfl, rfl, rfl⟩ rfl rfl rfl rfl rfl (by kernel_rfl) Try.func4 (by kernel_rfl)
    (of_decide_eq_true (by kernel_rfl)) (by unfold Func.isWrapper; first | (rw [if_pos (by decide +kernel)]; kernel_rfl) | (rw [if_neg (by decide +kernel)]; exact ⟨rfl, rfl⟩))
    (fun os started H enc _ => lifted os started H enc)

/-- The statement. -/
theorem proved : Rows.PoolStaleSaid := over
#print axioms proved
end Go.Proofs.Yteeaminfhpcdmaa.poolStale
