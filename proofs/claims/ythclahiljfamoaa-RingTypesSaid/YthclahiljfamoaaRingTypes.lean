/- For every list of ints and every uint8 room: RingTypes returns true, so values of whatever type come out as they were put in, in order, round and round; no condition. -/
import Derived.Test.YthclahiljfamoaaRingLaw
import Derived.Test.YthclahiljfamoaaRingPairB
import Derived.WalkKit
import Derived.ProofKit
import Derived.OpenShut
import Derived.ChangeOld
import Derived.ChangeKeysEq
namespace Go.Proofs.Ythclahiljfamoaa.ringTypes
open Go.ChangeShapes Go.WideShapes Go.ChangeAt Go.RowKit
open RPair
set_option linter.unusedVariables false

theorem own : ownKnob Try.prog.godebug = none := by kernel_rfl
theorem laidOut : laidOutB Try.prog = true := by kernel_rfl

/-- n numbers of z with their places, from place a on. -/
def seg (z : List Int) (a n : Nat) : List (Int × Int) := (List.range' a n).map fun j : Nat => ((j : Int), nth z j)
theorem seg_len (z : List Int) (a n : Nat) : (seg z a n).length = n := by simp [seg]
theorem seg_0 (z : List Int) (a : Nat) : seg z a 0 = [] := rfl
theorem seg_more (z : List Int) (a n : Nat) : seg z a (n + 1) = seg z a n ++ [(((a + n : Nat) : Int), nth z (a + n))] := by unfold seg; rw [List.range'_concat]; simp
theorem seg_first (z : List Int) (a n : Nat) : seg z a (n + 1) = ((a : Int), nth z a) :: seg z (a + 1) n := by unfold seg; rw [List.range'_succ]; simp

theorem intinfo : (Try.prog.info? 3).isSome = true := by kernel_rfl
theorem intcells : Try.prog.cellsOf 3 = 1 := by kernel_rfl
theorem same1 (a : Int) (d : Nat) (w : World) : (Op.equalIn (d + 1) 3 (.int .i64 a) (.int .i64 a)).run Try.prog w = .ok true w := by
  simp [Op.equalIn, run_underlying Try.underlying3]
/-- Two pairs of the same numbers are the same. -/
theorem same2 (a b : Int) (w : World) : (Op.equalIn 10000 43 (.agg #[.int .i64 a, .int .i64 b]) (.agg #[.int .i64 a, .int .i64 b])).run Try.prog w = .ok true w := by
  obtain ⟨i, hi⟩ := Option.isSome_iff_exists.1 intinfo
  have h : ∀ d, (Op.equalIn (d + 1 + 1) 43 (.agg #[.int .i64 a, .int .i64 b]) (.agg #[.int .i64 a, .int .i64 b])).run Try.prog w = .ok true w := by
    intro d
    rw [run_equalIn_array w (d + 1) _ _ Try.underlying43 hi, intcells, show List.range 2 = [0, 1] from rfl]
    simp [Op.eqItems, part, same1]
  exact h 9998

theorem u8_bounds {n : Int} (h : (Lit.int .u8 n).wf = true) : 0 ≤ n ∧ n < 256 := by
  simp [Lit.wf, IntKind.min, IntKind.max, IntKind.bits, IntKind.signed] at h; omega

/-- How many are in the ring behind i rounds. -/
def cnt (K i : Nat) : Nat := min i (K - 1)
/-- At each round's head: the last ones are in the ring. -/
def Rel (w : World) (p K : Nat) (z : List Int) (i : Nat) (og : Option Nat) (wr : World) : Prop := Rg wr p og K (seg z (i - cnt K i) (cnt K i)) ∧ Fresh w wr p og

set_option maxHeartbeats 1000000 in
set_option maxRecDepth 100000 in
theorem walk (a0 : Option Addr) (cap0 : Nat) (z : List Int) (N : Nat) (w : World) (g0 : Given .i64 w a0 z) (hm : z.length ≤ maxLen) (hN : N < 256) :
    Calls Try.prog 4 #[.slice a0 z.length cap0, .int .u8 N] w fun e w' => e = .returned (.bool true) ∧ Below w.heap.size w w' := by
  unfold maxLen at hm
  obtain ⟨K, hK⟩ : ∃ K : Nat, K = 1 + N % 9 := ⟨_, rfl⟩
  have hKb : 1 ≤ K ∧ K ≤ 9 := by omega
  have hNew := fun W => new_any (K : Int) W
  rw [show held (K : Int) = K from by unfold held; rw [if_neg (by omega), if_neg (by omega)]; simp] at hNew
  have hKe : 1 + (N : Int) % 9 = (K : Int) := by omega
  have HK := Lib.hid hKe
  clear hK hKe
  by_cases h200 : 200 < z.length
  · go_enter Try.func4, Try.ntmps4
    go_wp2_with fail
    rw [HK.out]
    refine (hNew _).mono ?_
    rintro e w1 ⟨rfl, h1, hw1⟩
    go_wp2_with fail
    refine (lAwake _).mono ?_
    rintro e w2 ⟨rfl, hw2⟩
    go_wp2
    go_ret
    exact ⟨rfl, below_of_grown (grown_then hw1 hw2 (.inl rfl))⟩
  · go_enter Try.func4, Try.ntmps4
    go_wp2_with fail
    rw [HK.out]
    generalize (N : Int) % 9 = n9
    refine (hNew _).mono ?_
    clear hNew
    rintro e w1 ⟨rfl, h1, hw1⟩
    have hF : Fresh w w1 w.heap.size none := ⟨hw1, Nat.le_refl _, fun _ e => by cases e⟩
    generalize w.heap.size = p at h1 hF ⊢
    go_wp2
    go_loopw [31] (fun i wr => ∃ (k : Nat) (og : Option Nat), k ≤ z.length ∧ i = .int .i64 k ∧ Rel w p K z k og wr) (fun i _ => z.length - (intOf i).toNat)
    case atStart => exact ⟨0, none, Nat.zero_le _, rfl, (by rw [show cnt K 0 = 0 by unfold cnt; omega, seg_0]; exact h1), hF⟩
    case round =>
      obtain ⟨k, og, hk, rfl, hr, hf⟩ := hrel
      by_cases hlt : k < z.length
      · obtain ⟨b, off, rfl, hc⟩ := g0.at_ hlt (below_of_grown hf.1)
        obtain ⟨c, hce⟩ : ∃ c, c = cnt K k := ⟨_, rfl⟩
        rw [← hce] at hr
        have hcb : c ≤ k ∧ c < K := by unfold cnt at hce; omega
        have hsl : (seg z (k - c) c).length < K := by rw [seg_len]; exact hcb.2
        have hsm : seg z (k - c) c ++ [((k : Int), nth z k)] = seg z (k - c) (c + 1) := by rw [seg_more, show k - c + c = k by omega]
        have HSM := Lib.hid hsm
        have HCE := Lib.hid hce
        clear hsm hce
        go_wp2_with fail
        refine (put_ok hr hsl ((k : Int), nth z k)).mono ?_
        rintro e w2 ⟨og2, rfl, h2, hm2⟩
        rw [HSM.out] at h2
        have hf2 := hf.moved hm2
        clear hr hf hm2 hc
        go_wp2_with fail
        refine (room_rg h2).mono ?_
        rintro e w3 ⟨rfl, m, rfl⟩
        rw [seg_len]
        have h3 := h2.draws m
        have hf3 := hf2.draws m
        clear h2 hf2
        generalize w2.drewN m = w3 at h3 hf3 ⊢
        by_cases hful : c + 1 = K
        · have t1 : ((K - (c + 1) : Nat) : Int) = 0 := by omega
          rw [t1]
          clear t1
          rw [seg_first] at h3
          go_wp2_with fail
          refine (take_ok h3).mono ?_
          rintro e w4 ⟨rfl, h4, hw4⟩
          have hf4 := hf3.within hw4
          clear h3 hf3 hw4
          obtain ⟨j, hj⟩ : ∃ j, j = k - c := ⟨_, rfl⟩
          rw [← hj] at h4 ⊢
          have hjb : j < z.length := by omega
          have hjk : j ≤ k := by omega
          have hjK : (j : Int) = (k : Int) - (K : Int) + 1 := by omega
          have HJ := Lib.hid hj
          have HJK := Lib.hid hjK
          clear hj hjK
          have hX := Bk.made w4 43 #[.int .i64 j, .int .i64 (nth z j)]
          have hXg := grown_made w4 (.cells #[.int .i64 j, .int .i64 (nth z j)] 43) none
          go_wp2_with fail
          generalize w4.alloc (.cells #[.int .i64 j, .int .i64 (nth z j)] 43) = w5 at hX hXg ⊢
          have h5 := h4.kept (.of_grown (S := fun _ => False) hXg (by simp)) (by simp) (by simp)
          have hf5 := hf4.more hXg
          generalize w4.heap.size = X at hX ⊢
          obtain ⟨_, _, e0, hcj⟩ := g0.at_ hjb (below_of_grown hf5.1)
          simp only [Option.some.injEq, Addr.mk.injEq, and_true] at e0
          obtain ⟨rfl, rfl⟩ := e0
          have x0 : w5.cell? ⟨X, 0, none⟩ = some (.int .i64 j) := by rw [hX.cell]; rfl
          have x1 : w5.cell? ⟨X, 1, none⟩ = some (.int .i64 (nth z j)) := by rw [hX.cell]; rfl
          have i1 : (j : Int) < z.length := by omega
          have i2 : (0 : Int) ≤ j := by omega
          have s1 : IntKind.i64.wrap ((k : Int) - (K : Int)) = (k : Int) - (K : Int) := IntWalk.i64_in _ (by omega)
          have s2 : IntKind.i64.wrap ((k : Int) - (K : Int) + 1) = (j : Int) := by rw [HJK.out]; exact IntWalk.i64_in _ (by omega)
          clear h4 hf4 hXg hX
          generalize nth z j = zj at *
          have hsame := fun W => same2 (j : Int) zj W
          go_quiet (fail)
          clear s1 s2
          have hend : Rel w p K z (k + 1) og2 w5 := by
            have hc1 : cnt K (k + 1) = c := by have := HCE.out; unfold cnt at this ⊢; omega
            refine ⟨?_, hf5⟩
            rw [hc1, show k + 1 - c = j + 1 by have := HJ.out; omega]
            exact h5
          obtain ⟨hr6, hf6⟩ := hend
          clear h5 hf5 x0 x1 hsame hcj
          go_wp2
          go_roundw
          case rel => exact ⟨k + 1, og2, by omega, by go_num, hr6.draws _, hf6.draws _⟩
          case measure => simp [intOf]; omega
        · have t1 : (((K - (c + 1) : Nat) : Int) == 0) = false := by simp; omega
          have hend : Rel w p K z (k + 1) og2 w3 := by
            have hc1 : cnt K (k + 1) = c + 1 := by have := HCE.out; unfold cnt at this ⊢; omega
            refine ⟨?_, hf3⟩
            rw [hc1, show k + 1 - (c + 1) = k - c by omega]
            exact h3
          obtain ⟨hr6, hf6⟩ := hend
          clear h3 hf3
          go_wp2
          go_roundw
          case rel => exact ⟨k + 1, og2, by omega, by go_num, hr6, hf6⟩
          case measure => simp [intOf]; omega
      · obtain rfl : k = z.length := by omega
        have hsl := seg_len z (z.length - cnt K z.length) (cnt K z.length)
        have HSL := Lib.hid hsl
        clear hsl
        by_cases hmin : z.length < K - 1
        · have hcnt : cnt K z.length = z.length := by unfold cnt; omega
          have HC := Lib.hid hcnt
          clear hcnt
          have q1 : (z.length : Int) < (K : Int) - 1 := by omega
          have q2 : ¬ (K : Int) - 1 < (z.length : Int) := by omega
          go_wp2_with fail
          refine (len_rg hr).mono ?_
          rintro e w2 ⟨rfl, rfl⟩
          rw [HSL.out, HC.out]
          go_wp2_with fail
          refine (lAwake _).mono ?_
          rintro e w9 ⟨rfl, hw9⟩
          go_wp2
          go_ret
          exact ⟨rfl, below_of_grown (grown_then hf.1 hw9 (.inl rfl))⟩
        · have hcnt : ((cnt K z.length : Nat) : Int) = (K : Int) - 1 := by unfold cnt; omega
          have HC := Lib.hid hcnt
          clear hcnt
          have q1 : ¬ (z.length : Int) < (K : Int) - 1 := by omega
          have q2 : (K : Int) - 1 ≤ (z.length : Int) := by omega
          go_wp2_with fail
          refine (len_rg hr).mono ?_
          rintro e w2 ⟨rfl, rfl⟩
          rw [HSL.out, HC.out]
          go_wp2_with fail
          all_goals
            refine (lAwake _).mono ?_
            rintro e w9 ⟨rfl, hw9⟩
            go_wp2
            go_ret
            exact ⟨rfl, below_of_grown (grown_then hf.1 hw9 (.inl rfl))⟩

theorem walk0 (a0 : Option Addr) (cap0 : Nat) (z : List Int) (x : Int) (w : World) (g0 : Given .i64 w a0 z) (_ : ∀ n ∈ z, (Lit.int .i64 n).wf = true) (hm : z.length ≤ maxLen) (hx : (Lit.int .u8 x).wf = true) :
    Calls Try.prog 4 #[.slice a0 z.length cap0, .int .u8 x] w fun e w' => e = .returned (.bool true) ∧ Below w.heap.size w w' := by
  have hb := u8_bounds hx
  obtain ⟨N, rfl⟩ := Int.eq_ofNat_of_zero_le hb.1
  exact walk a0 cap0 z N w g0 hm (by omega)

set_option maxRecDepth 100000 in
theorem lifted (os : Os) (started : os.Started) (H : Type) (enc : TypeId × Value → H) :
    ReturnsInHanded {} Try.checked os 4 .any (Rows.ringTypesSpec.pre6 enc Try.prog Try.f4 Rows.ringTypesRow.domain false) (Rows.ringTypesSpec.post enc Try.prog Try.f4 false true false false) := by
  refine returnsInHanded_of_change (C := Try.checked) own started (by kernel_rfl) Try.func4
    (ChangeSpec.witness6 (enc := enc) (C := Try.checked) false ⟨#[], #[.slice none 0 0, .int .u8 0], []⟩ 8 (by kernel_rfl) (by kernel_rfl) (by kernel_rfl) (by kernel_rfl)) ?_
  intro W base args ds gs before hval0 hW hcnd _
  have hval : ∀ (j : Nat) t v, Try.f4.params[j]? = some t → args[j]? = some v → Value.okWide Try.prog W .any base t v := hval0
  have hW' := hW
  obtain ⟨p, q, hA0, hV, rfl, hfz, hnd⟩ := hW
  have hA : DataW.TrodAll enc Try.prog W 0 (fun _ => true) true Try.f4.params.toList args.toList ds p := hA0
  rw [Try.params4] at hA hval
  obtain ⟨v0, vs0, d0, ds0, p0, q0, hargs, rfl, rfl, h0, r0⟩ := trodAll_cons hA
  obtain ⟨v1, vs1, d1, ds1, p1, q1, rfl, rfl, rfl, h1, r1⟩ := trodAll_cons r0
  obtain ⟨rfl, rfl, rfl⟩ := trodAll_nil r1
  obtain rfl : args = #[v0, v1] := by cases args; simp_all
  obtain ⟨rfl, rfl⟩ := trodVars_none hV
  obtain ⟨a0, len0, cap0, rfl⟩ := okWide_slice Try.underlying40 (hval 0 40 v0 rfl rfl)
  have k0 := h0
  have lt0 : ∀ x ∈ p0, x.block < W.heap.size := by obtain ⟨m, hm⟩ := k0; exact DataW.trod_lt m _ _ _ hm
  obtain ⟨z0, g0, l0, u0, hb0⟩ : ∃ zs, Given .i64 W a0 zs ∧ len0 = zs.length ∧ (∀ n ∈ zs, (Lit.int .i64 n).wf = true) ∧ zs.length ≤ maxLen := by
    obtain ⟨fuel, hf⟩ := h0
    rcases open_ints Try.underlying40 Try.underlying3 (by kernel_rfl) hf with ⟨hcs, _⟩ | ⟨x, l, c, zs, hcs, _, hl, hm, hz, _, hcell, hwz⟩
    · simp [Value.cells] at hcs
      obtain ⟨rfl, rfl, rfl⟩ := hcs
      exact ⟨[], given_nil _ _ _, rfl, by simp, by simp⟩
    · simp [Value.cells] at hcs
      obtain ⟨rfl, rfl, rfl⟩ := hcs
      have hz' : zs.length = cap0 := by simpa using hz
      exact ⟨zs.take len0, given_of (by omega) hcell, by simp; omega, fun n hn => hwz n (List.mem_of_mem_take hn), by simp; omega⟩
  subst l0
  obtain ⟨x1, rfl, rfl, rfl, w1⟩ := open_int Try.underlying5 (hval 1 5 v1 rfl rfl) h1
  clear hA0 hval0
  refine (walk0 a0 cap0 z0 x1 W g0 u0 hb0 w1).mono fun e W' ⟨he, bel⟩ => ?_
  subst he
  exact ⟨_, rfl, _, _, _, [], _, [], hW', trodAll_mk1 (shut_bool Try.underlying4 _), (trodAll_cons_mk (Below.trod laidOut (by kernel_rfl) (of_decide_eq_true (by kernel_rfl)) k0 bel lt0) (trodAll_cons_mk (shut_int Try.underlying5 w1) trodAll_mk0)), rfl, bel.frame _, fun h => by cases h⟩

theorem over : Rows.ringTypesRow.holds Try.pinned (OpenSpec.ofChange Rows.ringTypesSpec) :=
  OpenClaim.holds_of_wide 4 Try.f4 rfl rfl rfl rfl rfl rfl rfl ⟨rfl, rfl, rfl, rfl, rfl⟩ rfl rfl rfl rfl rfl (by kernel_rfl) Try.func4 (by kernel_rfl)
    (of_decide_eq_true (by kernel_rfl)) (by unfold Func.isWrapper; first | (rw [if_pos (by decide +kernel)]; kernel_rfl) | (rw [if_neg (by decide +kernel)]; exact ⟨rfl, rfl⟩))
    (fun os started H enc _ => lifted os started H enc)

/-- The statement. -/
theorem proved : Rows.RingTypesSaid := over
#print axioms proved
end Go.Proofs.Ythclahiljfamoaa.ringTypes
