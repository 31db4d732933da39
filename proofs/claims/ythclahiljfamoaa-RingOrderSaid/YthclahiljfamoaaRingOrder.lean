/- For every uint8 room and every list of bools: RingOrder returns true, so all that comes out of a ring comes in the order in which it was put in, none twice; no condition. -/
import Derived.Test.YthclahiljfamoaaRingLaw
import Derived.Test.YthclahiljfamoaaOnes
import Derived.WalkKit
import Derived.ProofKit
import Derived.OpenShut
import Derived.ChangeOld
namespace Go.Proofs.Ythclahiljfamoaa.ringOrder
open Go.ChangeShapes Go.WideShapes Go.ChangeAt Go.RowKit
open RInt
set_option linter.unusedVariables false

theorem own : ownKnob Try.prog.godebug = none := by kernel_rfl
theorem laidOut : laidOutB Try.prog = true := by kernel_rfl

/-- n numbers from a on. -/
def span (a n : Nat) : List Int := (List.range' a n).map fun i : Nat => (i : Int)
theorem span_len (a n : Nat) : (span a n).length = n := by simp [span]
theorem span_0 (a : Nat) : span a 0 = [] := rfl
theorem span_more (a n : Nat) : span a (n + 1) = span a n ++ [((a + n : Nat) : Int)] := by unfold span; rw [List.range'_concat]; simp
theorem span_first (a n : Nat) : span a (n + 1) = (a : Int) :: span (a + 1) n := by unfold span; rw [List.range'_succ]; simp

theorem u8_bounds {n : Int} (h : (Lit.int .u8 n).wf = true) : 0 ≤ n ∧ n < 256 := by
  simp [Lit.wf, IntKind.min, IntKind.max, IntKind.bits, IntKind.signed] at h; omega

/-- At each round's head: next to put - 1 are in the ring. -/
def Rel (w : World) (p N : Nat) (k put next : Nat) (og : Option Nat) (wr : World) : Prop := next ≤ put ∧ put ≤ k ∧ put ≤ next + N ∧ Rg wr p og N (span next (put - next)) ∧ Fresh w wr p og

set_option maxHeartbeats 1000000 in
set_option maxRecDepth 100000 in
theorem walk (N : Nat) (hN : N < 256) (a1 : Option Addr) (len cap1 : Nat) (w : World) (g1 : Ones w a1 len (fun u => ∃ b, u = .bool b)) (hm : len ≤ maxLen) :
    Calls Try.prog 5 #[.int .u8 N, .slice a1 len cap1] w fun e w' => e = .returned (.bool true) ∧ Below w.heap.size w w' := by
  unfold maxLen at hm
  have hNew := fun W => new_any (N : Int) W
  rw [show held (N : Int) = N from by unfold held; rw [if_neg (by omega), if_neg (by omega)]; simp] at hNew
  by_cases h100 : 100 < len
  · go_enter Try.func5, Try.ntmps5
    go_wp2_with fail
    refine (hNew _).mono ?_
    rintro e w1 ⟨rfl, h1, hw1⟩
    go_wp2_with fail
    refine (lAwake _).mono ?_
    rintro e w2 ⟨rfl, hw2⟩
    go_wp2
    go_ret
    exact ⟨rfl, below_of_grown (grown_then hw1 hw2 (.inl rfl))⟩
  · go_enter Try.func5, Try.ntmps5
    go_wp2_with fail
    refine (hNew _).mono ?_
    clear hNew
    rintro e w1 ⟨rfl, h1, hw1⟩
    have hF : Fresh w w1 w.heap.size none := ⟨hw1, Nat.le_refl _, fun _ e => by cases e⟩
    generalize w.heap.size = p at h1 hF ⊢
    go_wp2
    go_loopw [6, 7, 29] (fun a b i wr => ∃ (k put next : Nat) (og : Option Nat), k ≤ len ∧ i = .int .i64 k ∧ a = .int .i64 put ∧ b = .int .i64 next ∧ Rel w p N k put next og wr) (fun _ _ i _ => len - (intOf i).toNat)
    case atStart => exact ⟨0, 0, 0, none, Nat.zero_le _, rfl, rfl, rfl, Nat.le_refl _, Nat.le_refl _, by omega, h1, hF⟩
    case round =>
      obtain ⟨k, put, next, og, hk, rfl, rfl, rfl, hnp, hpk, hpN, hr, hf⟩ := hrel
      have hl : (span next (put - next)).length = put - next := span_len _ _
      by_cases hlt : k < len
      · obtain ⟨b, off, _, rfl, hc, is, rfl⟩ := g1.at_ hlt (below_of_grown hf.1)
        cases is with
        | false =>
          by_cases hfull : put = next + N
          · have hfl : (span next (put - next)).length = N := by omega
            have HFL := Lib.hid hfl
            clear hfl hl
            have HFU := Lib.hid hfull
            clear hfull
            go_wp2_with fail
            refine (put_no hr HFL.out put).mono ?_
            rintro e w2 ⟨rfl, m, rfl⟩
            go_wp2
            go_roundw
            case rel => exact ⟨k + 1, put, next, og, by omega, by go_num, rfl, rfl, hnp, by omega, hpN, hr.draws _, hf.draws _⟩
            case measure => simp [intOf]; omega
          · have hfl : (span next (put - next)).length < N := by omega
            have hsp : span next (put - next) ++ [(put : Int)] = span next (put + 1 - next) := by
              rw [show put + 1 - next = (put - next) + 1 by omega, span_more, show next + (put - next) = put by omega]
            have HSP := Lib.hid hsp
            clear hl hsp
            go_wp2_with fail
            refine (put_ok hr hfl put).mono ?_
            rintro e w2 ⟨og2, rfl, h2, hm2⟩
            rw [HSP.out] at h2
            have hf2 := hf.moved hm2
            go_wp2
            go_roundw
            case rel => exact ⟨k + 1, put + 1, next, og2, by omega, by go_num, by go_num, rfl, by omega, by omega, by omega, h2, hf2⟩
            case measure => simp [intOf]; omega
        | true =>
          by_cases hnone : put = next
          · subst hnone
            rw [Nat.sub_self, span_0] at hr
            clear hl
            go_wp2_with fail
            refine (take_no hr).mono ?_
            rintro e w2 ⟨rfl, rfl⟩
            go_wp2
            go_roundw
            case rel => exact ⟨k + 1, put, put, og, by omega, by go_num, rfl, rfl, Nat.le_refl _, by omega, by omega, by rw [Nat.sub_self]; exact hr, hf⟩
            case measure => simp [intOf]; omega
          · rw [show put - next = (put - (next + 1)) + 1 by omega, span_first] at hr
            clear hl
            go_wp2_with fail
            refine (take_ok hr).mono ?_
            rintro e w2 ⟨rfl, h2, hm2⟩
            have hf2 := hf.within hm2
            go_wp2
            go_roundw
            case rel => exact ⟨k + 1, put, next + 1, og, by omega, by go_num, rfl, by go_num, by omega, by omega, by omega, h2, hf2⟩
            case measure => simp [intOf]; omega
      · have HL := Lib.hid hl
        clear hl
        go_wp2_with fail
        refine (len_rg hr).mono ?_
        rintro e w2 ⟨rfl, rfl⟩
        rw [HL.out]
        have t1 : ((put - next : Nat) : Int) = (put : Int) - next := by omega
        rw [t1]
        clear t1
        go_wp2_with fail
        refine (len_rg hr).mono ?_
        rintro e w2 ⟨rfl, rfl⟩
        rw [HL.out]
        go_wp2_with fail
        refine (room_rg hr).mono ?_
        rintro e w2 ⟨rfl, m, rfl⟩
        rw [HL.out]
        have t2 : ((put - next : Nat) : Int) + ((N - (put - next) : Nat) : Int) = N := by omega
        go_wp2_with fail
        refine (lAwake _).mono ?_
        rintro e w3 ⟨rfl, hw3⟩
        go_wp2
        go_ret
        exact ⟨rfl, below_of_grown (grown_then (hf.draws m).1 hw3 (.inl rfl))⟩

theorem walk0 (x : Int) (a1 : Option Addr) (len cap1 : Nat) (w : World) (hx : (Lit.int .u8 x).wf = true) (g1 : Ones w a1 len (fun u => ∃ b, u = .bool b)) (hm : len ≤ maxLen) :
    Calls Try.prog 5 #[.int .u8 x, .slice a1 len cap1] w fun e w' => e = .returned (.bool true) ∧ Below w.heap.size w w' := by
  have hb := u8_bounds hx
  obtain ⟨N, rfl⟩ := Int.eq_ofNat_of_zero_le hb.1
  exact walk N (by omega) a1 len cap1 w g1 hm

set_option maxRecDepth 100000 in
theorem lifted (os : Os) (started : os.Started) (H : Type) (enc : TypeId × Value → H) :
    ReturnsInHanded {} Try.checked os 5 .any (Rows.ringOrderSpec.pre6 enc Try.prog Try.f5 Rows.ringOrderRow.domain false) (Rows.ringOrderSpec.post enc Try.prog Try.f5 false true false false) := by
  refine returnsInHanded_of_change (C := Try.checked) own started (by kernel_rfl) Try.func5
    (ChangeSpec.witness6 (enc := enc) (C := Try.checked) false ⟨#[], #[.int .u8 0, .slice none 0 0], []⟩ 8 (by kernel_rfl) (by kernel_rfl) (by kernel_rfl) (by kernel_rfl)) ?_
  intro W base args ds gs before hval0 hW hcnd _
  have hval : ∀ (j : Nat) t v, Try.f5.params[j]? = some t → args[j]? = some v → Value.okWide Try.prog W .any base t v := hval0
  have hW' := hW
  obtain ⟨p, q, hA0, hV, rfl, hfz, hnd⟩ := hW
  have hA : DataW.TrodAll enc Try.prog W 0 (fun _ => true) true Try.f5.params.toList args.toList ds p := hA0
  rw [Try.params5] at hA hval
  obtain ⟨v0, vs0, d0, ds0, p0, q0, hargs, rfl, rfl, h0, r0⟩ := trodAll_cons hA
  obtain ⟨v1, vs1, d1, ds1, p1, q1, rfl, rfl, rfl, h1, r1⟩ := trodAll_cons r0
  obtain ⟨rfl, rfl, rfl⟩ := trodAll_nil r1
  obtain rfl : args = #[v0, v1] := by cases args; simp_all
  obtain ⟨rfl, rfl⟩ := trodVars_none hV
  obtain ⟨x0, rfl, rfl, rfl, w0⟩ := open_int Try.underlying5 (hval 0 5 v0 rfl rfl) h0
  obtain ⟨a1, len1, cap1, rfl⟩ := okWide_slice Try.underlying48 (hval 1 48 v1 rfl rfl)
  have k1 := h1
  have lt1 : ∀ x ∈ p1, x.block < W.heap.size := by obtain ⟨m, hm⟩ := k1; exact DataW.trod_lt m _ _ _ hm
  obtain ⟨hb1, g1⟩ : len1 ≤ maxLen ∧ Ones W a1 len1 (fun u => ∃ b, u = .bool b) := by
    obtain ⟨fuel, hf⟩ := h1
    obtain ⟨hle, hr⟩ := open_ones Try.underlying48 (by kernel_rfl) (by simpa [Value.cells] using hf)
    refine ⟨hle, hr.imp fun u hu => ?_⟩
    obtain ⟨n, y, hy⟩ := hu
    obtain ⟨x, e, _⟩ := DataW.trod_bool Try.underlying4 hy
    simp at e; subst e; exact ⟨x, rfl⟩
  clear hA0 hval0
  refine (walk0 x0 a1 len1 cap1 W w0 g1 hb1).mono fun e W' ⟨he, bel⟩ => ?_
  subst he
  exact ⟨_, rfl, _, _, _, [], _, [], hW', trodAll_mk1 (shut_bool Try.underlying4 _), (trodAll_cons_mk (shut_int Try.underlying5 w0) (trodAll_cons_mk (Below.trod laidOut (by kernel_rfl) (of_decide_eq_true (by kernel_rfl)) k1 bel lt1) trodAll_mk0)), rfl, bel.frame _, fun h => by cases h⟩

theorem over : Rows.ringOrderRow.holds Try.pinned (OpenSpec.ofChange Rows.ringOrderSpec) :=
  OpenClaim.holds_of_wide 5 Try.f5 rfl rfl rfl rfl rfl rfl rfl ⟨rfl, rfl, rfl, rfl, rfl⟩ rfl rfl rfl rfl rfl (by kernel_rfl) Try.func5 (by kernel_rfl)
    (of_decide_eq_true (by kernel_rfl)) (by unfold Func.isWrapper; first | (rw [if_pos (by decide +kernel)]; kernel_rfl) | (rw [if_neg (by decide +kernel)]; exact ⟨rfl, rfl⟩))
    (fun os started H enc _ => lifted os started H enc)

/-- The statement. -/
theorem proved : Rows.RingOrderSaid := over
#print axioms proved
end Go.Proofs.Ythclahiljfamoaa.ringOrder
