/- For every uint64 and every uint8: PermitApart returns true, so what one thread is given or loses says nothing of any other one; no condition. -/
import Derived.Test.YtlppkbpahhjlfaaPermitC
import Derived.WalkKit
import Derived.ProofKit
import Derived.OpenShut
import Derived.ChangeOld
import Derived.BigQuiet
import Derived.Laws.BitsAllLaws
namespace Go.Proofs.Ytlppkbpahhjlfaa.permitApart
open Go.ChangeShapes Go.WideShapes Go.ChangeAt Go.RowKit
set_option linter.unusedVariables false

theorem own : ownKnob Try.prog.godebug = none := by kernel_rfl
theorem laidOut : laidOutB Try.prog = true := by kernel_rfl

theorem u8_bounds {n : Int} (h : (Lit.int .u8 n).wf = true) : 0 ≤ n ∧ n < 256 := by
  simp [Lit.wf, IntKind.min, IntKind.max, IntKind.bits, IntKind.signed] at h; omega
theorem u64_bounds {n : Int} (h : (Lit.int .u64 n).wf = true) : 0 ≤ n ∧ n < 18446744073709551616 := by
  simp [Lit.wf, IntKind.min, IntKind.max, IntKind.bits, IntKind.signed] at h; omega

/-- Who of 64 is given one: the first k of x's bits. -/
def given (x k : Nat) : List Bool := (List.range 64).map fun i => decide (i < k) && x.testBit i
theorem given_len (x k : Nat) : (given x k).length = 64 := by simp [given]
theorem given_0 (x : Nat) : given x 0 = List.replicate 64 false := by
  refine nthO_ext (z := false) (by simp [given]) fun i hi => ?_
  rw [nthO_none]
  rw [given_len] at hi
  simp [given, nthO, List.getD_eq_getElem?_getD, hi]
theorem given_at (x k : Nat) {i : Nat} (hi : i < 64) : nthO false (given x k) i = (decide (i < k) && x.testBit i) := by
  simp [given, nthO, List.getD_eq_getElem?_getD, hi]
theorem given_off (x k : Nat) (hk : k < 64) (h : x.testBit k = false) : given x (k + 1) = given x k := by
  refine nthO_ext (z := false) (by simp [given]) fun i hi => ?_
  rw [given_len] at hi
  rw [given_at _ _ hi, given_at _ _ hi]
  by_cases e : i = k
  · subst e; simp [h]
  · have : (i < k + 1) ↔ i < k := by omega
    simp [this]
theorem given_on (x k : Nat) (hk : k < 64) (h : x.testBit k = true) : (given x k).set k true = given x (k + 1) := by
  refine nthO_ext (z := false) (by simp [given]) fun i hi => ?_
  rw [List.length_set, given_len] at hi
  rw [nthO_set (by rw [given_len]; exact hk), given_at _ _ hi, given_at _ _ hi]
  by_cases e : k = i
  · subst e; simp [h]
  · rw [if_neg e]
    have : (i < k + 1) ↔ i < k := by omega
    simp [this]
theorem given_cnt (x k : Nat) (hk : k < 64) (h : x.testBit k = true) : cnt (given x (k + 1)) = cnt (given x k) + 1 := by
  have := cnt_set (given x k) (t := k) (by rw [given_len]; exact hk) true
  rw [given_on x k hk h, given_at _ _ hk] at this
  simpa using this
theorem bit_of (x k : Nat) (hx : x < 18446744073709551616) : bits .and .u64 ((x : Int) / 2 ^ k) 1 = ((x.testBit k).toNat : Int) := by
  have e : (x : Int) / 2 ^ k = ((x / 2 ^ k : Nat) : Int) := by simp
  have hl : x / 2 ^ k ≤ x := Nat.div_le_self _ _
  rw [e, Nat.testBit_eq_decide_div_mod_eq]
  generalize x / 2 ^ k = y at hl ⊢
  rw [u64_and _ 1 (by omega) (by omega) (by omega) (by omega), Int.toNat_natCast, show (1 : Int).toNat = 1 from rfl, nat_mask1]
  rcases (show y % 2 = 0 ∨ y % 2 = 1 by omega) with h | h <;> rw [h] <;> rfl
/-- What is left behind the Take. -/
def left (x t : Nat) : List Bool := (given x 64).set t false
theorem left_at (x t : Nat) (ht : t < 64) {i : Nat} (hi : i < 64) : nthO false (left x t) i = (x.testBit i && decide (¬ i = t)) := by
  unfold left
  rw [nthO_set (by rw [given_len]; exact ht), given_at _ _ hi]
  by_cases e : t = i
  · subst e; simp
  · rw [if_neg e]
    have : ¬ i = t := fun h => e h.symm
    simp [hi, this]
theorem left_cnt (x t : Nat) (ht : t < 64) : cnt (left x t) + (x.testBit t).toNat = cnt (given x 64) := by
  have := cnt_set (given x 64) (t := t) (by rw [given_len]; exact ht) false
  rw [given_at _ _ ht] at this
  unfold left
  simpa [ht] using this
/-- At each round's head: the permits, and nothing that was there has changed. -/
def Rel (w : World) (g : Nat) (bs : List Bool) (wr : World) : Prop := Pm wr g 64 bs ∧ w.grownBy wr none
theorem more {w a b : World} {g N : Nat} (hg : w.heap.size ≤ g) (h : w.grownBy a none) (k : Within a b (InPm g N)) : w.grownBy b none :=
  ((Within.of_grown (S := fun _ => False) h (by simp)).then_ k (fun i hi => .inr (Nat.le_trans hg (Nat.le_of_lt hi.1)))).grown (by simp)

/-- All that the walk wants to know of who is given one. -/
structure Who (x t : Nat) (G : Nat → List Bool) (L : List Bool) : Prop where
  zero : G 0 = List.replicate 64 false
  len : ∀ k, (G k).length = 64
  off : ∀ k, k < 64 → x.testBit k = false → G (k + 1) = G k
  on : ∀ k, k < 64 → x.testBit k = true → (G k).set k true = G (k + 1)
  more : ∀ k, k < 64 → x.testBit k = true → cnt (G (k + 1)) = cnt (G k) + 1
  left : (G 64).set t false = L
  has : ∀ i, i < 64 → nthO false L i = (x.testBit i && decide (¬ i = t))
  many : cnt L + (x.testBit t).toNat = cnt (G 64)
theorem who (x t : Nat) (ht : t < 64) : ∃ G L, Who x t G L :=
  ⟨given x, left x t, given_0 x, given_len x, given_off x, given_on x, given_cnt x, rfl, fun _ hi => left_at x t ht hi, left_cnt x t ht⟩

set_option maxHeartbeats 400000 in
set_option maxRecDepth 100000 in
theorem walkN (x0 x1 : Nat) (w : World) (w0 : x0 < 18446744073709551616) (w1 : x1 < 256) :
    Calls Try.prog 4 #[.int .u64 x0, .int .u8 x1] w fun e w' => e = .returned (.bool true) ∧ Below w.heap.size w w' := by
  obtain ⟨t, ht, hlt⟩ : ∃ t : Nat, (x1 : Int) % 64 = t ∧ t < 64 := ⟨x1 % 64, by omega, by omega⟩
  have HT := Lib.hid ht
  clear ht
  obtain ⟨G, L, HW⟩ := who x0 t hlt
  go_enter Try.func4, Try.ntmps4
  go_wp2_with fail
  refine (pNew 64 (by omega) (by omega) w).mono ?_
  rintro e a1 ⟨g, rfl, h1, hg, hgr⟩
  rw [← HW.zero] at h1
  go_wp2
  go_loopw [7, 21] (fun m i wr => ∃ k : Nat, k ≤ 64 ∧ i = .int .i64 k ∧ m = .int .i64 (cnt (G k)) ∧ Rel w g (G k) wr) (fun _ i _ => 64 - (intOf i).toNat)
  case atStart => exact ⟨0, Nat.zero_le _, rfl, by rw [HW.zero, cnt_none]; rfl, h1, hgr⟩
  case round =>
    clear h1
    obtain ⟨k, hk, rfl, rfl, hp, hw⟩ := hrel
    have hle := cnt_le (G k)
    rw [HW.len] at hle
    by_cases hkM : k < 64
    · have hb := bit_of x0 k w0
      cases hbit : x0.testBit k
      · rw [hbit, Bool.toNat_false] at hb
        have hb' : (bits .and .u64 ((x0 : Int) / 2 ^ k) 1 == 1) = false := by rw [hb]; rfl
        have HBIT := Lib.hid hbit
        clear hb hbit
        go_wp2
        go_roundw
        case rel => exact ⟨k + 1, by omega, by go_num, by rw [HW.off k hkM HBIT.out], by rw [HW.off k hkM HBIT.out]; exact hp, hw⟩
        case measure => simp [intOf]; omega
      · rw [hbit, Bool.toNat_true] at hb
        have hb' : (bits .and .u64 ((x0 : Int) / 2 ^ k) 1 == 1) = true := by rw [hb]; rfl
        have HBIT := Lib.hid hbit
        clear hb hbit
        go_wp2_with fail
        refine (pGive hp k hkM).mono ?_
        rintro e a2 ⟨rfl, h2, k2⟩
        rw [HW.on k hkM HBIT.out] at h2
        go_wp2
        go_roundw
        case rel => exact ⟨k + 1, by omega, by go_num, by rw [HW.more k hkM HBIT.out]; go_num, h2, more hg hw k2⟩
        case measure => simp [intOf]; omega
    · obtain rfl : k = 64 := by omega
      go_wp2_with fail
      rw [HT.out]
      refine (pTake hp t hlt).mono ?_
      rintro e a2 ⟨rfl, h2, k2⟩
      rw [HW.left] at h2
      have hw2 := more hg hw k2
      clear hp hw k2
      go_wp2
      go_loopw [41] (fun i wr => ∃ (j : Nat), j ≤ 64 ∧ i = .int .i64 j ∧ Rel w g L wr) (fun i _ => 64 - (intOf i).toNat)
      case atStart => exact ⟨0, Nat.zero_le _, rfl, h2, hw2⟩
      case round =>
        clear h2 hw2
        obtain ⟨j, hj, rfl, hp, hw⟩ := hrel
        by_cases hjM : j < 64
        · have hb := bit_of x0 j w0
          have hn := HW.has j hjM
          have hH : ∀ n, Calls Try.prog 11 #[.pointer (some ⟨g + 1 + 64, 0, none⟩), .int .i64 j] (wr.drewN n) fun e w' => e = .returned (.bool (nthO false L j)) ∧ w' = wr.drewN n :=
            fun n => (pHas (hp.drewN n) j hjM).mono (by rintro _ _ ⟨rfl, rfl⟩; exact ⟨rfl, rfl⟩)
          rw [hn] at hH
          clear hn
          rcases (show (x0.testBit j = false) ∨ (x0.testBit j = true ∧ j = t) ∨ (x0.testBit j = true ∧ ¬ j = t) by cases x0.testBit j <;> simp [Classical.em]) with hbit | ⟨hbit, rfl⟩ | ⟨hbit, hne⟩
          · rw [hbit, Bool.toNat_false] at hb
            rw [hbit, Bool.false_and] at hH
            have hb' : (bits .and .u64 ((x0 : Int) / 2 ^ j) 1 == 1) = false := by rw [hb]; rfl
            have HH := Lib.hid hH
            clear hb hbit hH
            go_wp2
            go_quiet ((go_at_call 11; exact Calls.quiet_of_same (HH.out _)))
            go_wp2
            go_roundw
            case rel => exact ⟨j + 1, by omega, by go_num, hp.drewN _, grown_draws hw _⟩
            case measure => simp [intOf]; omega
          · rw [hbit, Bool.toNat_true] at hb
            rw [hbit, decide_eq_false (by simp), Bool.and_false] at hH
            have hb' : (bits .and .u64 ((x0 : Int) / 2 ^ j) 1 == 1) = true := by rw [hb]; rfl
            have HH := Lib.hid hH
            clear hb hbit hH
            go_wp2
            go_quiet ((go_at_call 11; exact Calls.quiet_of_same (HH.out _)))
            go_wp2
            go_roundw
            case rel => exact ⟨j + 1, by omega, by go_num, hp.drewN _, grown_draws hw _⟩
            case measure => simp [intOf]; omega
          · rw [hbit, Bool.toNat_true] at hb
            rw [hbit, decide_eq_true hne, Bool.and_true] at hH
            have hne1 : ((j : Int) == (t : Int)) = false := by simp; omega
            have hne2 : ((j : Int) != (t : Int)) = true := by simp; omega
            have hb' : (bits .and .u64 ((x0 : Int) / 2 ^ j) 1 == 1) = true := by rw [hb]; rfl
            have HH := Lib.hid hH
            clear hb hbit hH
            go_wp2
            go_quiet ((go_at_call 11; exact Calls.quiet_of_same (HH.out _)))
            go_wp2
            go_roundw
            case rel => exact ⟨j + 1, by omega, by go_num, hp.drewN _, grown_draws hw _⟩
            case measure => simp [intOf]; omega
        · have hb := bit_of x0 t w0
          have hm := HW.many
          cases hbit : x0.testBit t
          · rw [hbit, Bool.toNat_false] at hb hm
            have hb' : (bits .and .u64 ((x0 : Int) / 2 ^ t) 1 == 1) = false := by rw [hb]; rfl
            clear hb hbit
            rw [Nat.add_zero] at hm
            go_wp2_with fail
            refine (pLen hp).mono ?_
            rintro e a3 ⟨rfl, rfl⟩
            rw [hm]
            go_wp2_with fail
            refine (lAwake _).mono ?_
            rintro e a4 ⟨rfl, hw4⟩
            go_wp2
            go_ret
            exact ⟨rfl, below_of_grown (grown_then hw hw4 (.inl rfl))⟩
          · rw [hbit, Bool.toNat_true] at hb hm
            have hb' : (bits .and .u64 ((x0 : Int) / 2 ^ t) 1 == 1) = true := by rw [hb]; rfl
            clear hb hbit
            have hm' : ((cnt (G 64) : Nat) : Int) - 1 = cnt L := by omega
            go_wp2_with fail
            refine (pLen hp).mono ?_
            rintro e a3 ⟨rfl, rfl⟩
            rw [← hm']
            go_wp2_with fail
            refine (lAwake _).mono ?_
            rintro e a4 ⟨rfl, hw4⟩
            go_wp2
            go_ret
            exact ⟨rfl, below_of_grown (grown_then hw hw4 (.inl rfl))⟩

theorem walk (x0 x1 : Int) (w : World) (w0 : (Lit.int .u64 x0).wf = true) (w1 : (Lit.int .u8 x1).wf = true) :
    Calls Try.prog 4 #[.int .u64 x0, .int .u8 x1] w fun e w' => e = .returned (.bool true) ∧ Below w.heap.size w w' := by
  obtain ⟨a0, b0⟩ := u64_bounds w0
  obtain ⟨a1, b1⟩ := u8_bounds w1
  obtain ⟨y0, rfl⟩ := Int.eq_ofNat_of_zero_le a0
  obtain ⟨y1, rfl⟩ := Int.eq_ofNat_of_zero_le a1
  exact walkN y0 y1 w (by omega) (by omega)

set_option maxRecDepth 100000 in
theorem lifted (os : Os) (started : os.Started) (H : Type) (enc : TypeId × Value → H) :
    ReturnsInHanded {} Try.checked os 4 .any (Rows.permitApartSpec.pre6 enc Try.prog Try.f4 Rows.permitApartRow.domain false) (Rows.permitApartSpec.post enc Try.prog Try.f4 false true false false) := by
  refine returnsInHanded_of_change (C := Try.checked) own started (by kernel_rfl) Try.func4
    (ChangeSpec.witness6 (enc := enc) (C := Try.checked) false ⟨#[], #[.int .u64 0, .int .u8 0], []⟩ 8 (by kernel_rfl) (by kernel_rfl) (by kernel_rfl) (by kernel_rfl)) ?_
  intro W base args ds gs before hval0 hW hcnd _
  have hval : ∀ (j : Nat) t v, Try.f4.params[j]? = some t → args[j]? = some v → Value.okWide Try.prog W .any base t v := hval0
  have hW' := hW
  obtain ⟨p, q, hA0, hV, rfl, hfz, hnd⟩ := hW
  have hA : DataW.TrodAll enc Try.prog W 0 (fun _ => true) true Try.f4.params.toList args.toList ds p := hA0
  rw [Try.params4] at hA hval
  obtain ⟨v0, vs0, d0, ds0, p0, q0, hargs, rfl, rfl, h0, r0⟩ := trodAll_cons hA
  obtain ⟨v1, vs1, d1, ds1, p1, q1, rfl, rfl, rfl, h1, r1⟩ := trodAll_cons r0
  obtain ⟨rfl, rfl, rfl⟩ := trodAll_nil r1
  obtain rfl : args = #[v0, v1] := by cases args; simp_all
  obtain ⟨rfl, rfl⟩ := trodVars_none hV
  obtain ⟨x0, rfl, rfl, rfl, w0⟩ := open_int Try.underlying38 (hval 0 38 v0 rfl rfl) h0
  obtain ⟨x1, rfl, rfl, rfl, w1⟩ := open_int Try.underlying5 (hval 1 5 v1 rfl rfl) h1
  clear hA0 hval0
  refine (walk x0 x1 W w0 w1).mono fun e W' ⟨he, bel⟩ => ?_
  subst he
  exact ⟨_, rfl, _, _, _, [], _, [], hW', trodAll_mk1 (shut_bool Try.underlying4 _), (trodAll_cons_mk (shut_int Try.underlying38 w0) (trodAll_cons_mk (shut_int Try.underlying5 w1) trodAll_mk0)), rfl, bel.frame _, fun h => by cases h⟩

theorem over : Rows.permitApartRow.holds Try.pinned (OpenSpec.ofChange Rows.permitApartSpec) :=
  OpenClaim.holds_of_wide 4 Try.f4 rfl rfl rfl rfl rfl rfl rfl ⟨rfl, rfl, rfl, rfl, rfl⟩ rfl rfl rfl rfl rfl (by kernel_rfl) Try.func4 (by kernel_rfl)
    (of_decide_eq_true (by kernel_rfl)) (by unfold Func.isWrapper; first | (rw [if_pos (by decide +kernel)]; kernel_rfl) | (rw [if_neg (by decide +kernel)]; exact ⟨rfl, rfl⟩))
    (fun os started H enc _ => lifted os started H enc)

/-- The statement. -/
theorem proved : Rows.PermitApartSaid := over
#print axioms proved
end Go.Proofs.Ytlppkbpahhjlfaa.permitApart
