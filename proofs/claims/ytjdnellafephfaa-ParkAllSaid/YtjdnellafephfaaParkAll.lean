/- For every list of uint8 and every uint8: ParkAll returns true, so all who are parked at an address are woken at once, each once, and none elsewhere, and every call comes back; no condition. -/
import Derived.Test.YtjdnellafephfaaParkS
import Derived.WalkKit
import Derived.ProofKit
import Derived.OpenShut
import Derived.ChangeOld
namespace Go.Proofs.Ytjdnellafephfaa.parkAll
open Go.ChangeShapes Go.WideShapes Go.ChangeAt Go.RowKit
set_option linter.unusedVariables false

theorem own : ownKnob Try.prog.godebug = none := by kernel_rfl
theorem laidOut : laidOutB Try.prog = true := by kernel_rfl

/-- How many of the first k are there. -/
def mny (zs : List Int) (a : Int) : Nat → Nat
  | 0 => 0
  | k + 1 => if nth zs k % 4 == a then mny zs a k + 1 else mny zs a k
theorem mny_le (zs : List Int) (a : Int) (k : Nat) : mny zs a k ≤ k := by
  induction k with
  | zero => simp [mny]
  | succ k ih => simp only [mny]; split <;> omega

/-- The first k are parked at their addresses, the others awake. -/
def Half (ss : List (Int × Int)) (zs : List Int) (N k : Nat) : Prop := (∀ i, i < k → lf ss i = 0 ∧ ad ss i = nth zs i % 4) ∧ ∀ i, k ≤ i → i < N → lf ss i = 1

theorem woke_half {ss : List (Int × Int)} {bs : List Bool} {zs : List Int} {N : Nat} {a : Int} (hh : Half ss zs N zs.length) (hb : ∀ i, i < N → nthO false bs i = false) (k : Nat) (hk : k ≤ zs.length) (hN : zs.length ≤ N) : (woke ss bs a (-1) k).length = mny zs a k := by
  induction k with
  | zero => rfl
  | succ k ih =>
    have ih := ih (by omega)
    obtain ⟨h1, h2⟩ := hh.1 k (by omega)
    have e : hit ss bs a (-1) k = (nth zs k % 4 == a) := by
      unfold hit
      rw [h1, h2, hb k (by omega), show ((k : Int) != -1) = true by rw [bne_iff_ne]; omega]
      simp
    simp only [woke, mny, e]
    split
    · simp [ih]
    · exact ih
theorem woke_none {ss : List (Int × Int)} {bs : List Bool} {a b : Int} (k : Nat) (h : ∀ i, i < k → hit ss bs a b i = false) : woke ss bs a b k = [] ∧ wokeB ss bs a b k = bs := by
  induction k with
  | zero => exact ⟨rfl, rfl⟩
  | succ k ih =>
    obtain ⟨h1, h2⟩ := ih (fun i hi => h i (by omega))
    simp only [woke, wokeB, h k (by omega)]
    exact ⟨h1, h2⟩

set_option maxHeartbeats 1000000 in
set_option maxRecDepth 100000 in
theorem walk (a0 : Option Addr) (cap0 : Nat) (z0 : List Int) (x1 : Int) (w : World) (g0 : Given .u8 w a0 z0) (u0 : ∀ n ∈ z0, (Lit.int .u8 n).wf = true) (hb0 : z0.length ≤ maxLen) (w1 : (Lit.int .u8 x1).wf = true) :
    Calls Try.prog 5 #[.slice a0 z0.length cap0, .int .u8 x1] w fun e w' => e = .returned (.bool true) ∧ Below w.heap.size w w' := by
  have b1 : 0 ≤ x1 ∧ x1 < 256 := by simp [Lit.wf, IntKind.min, IntKind.max, IntKind.bits, IntKind.signed] at w1; omega
  have hz : ∀ i, i < z0.length → 0 ≤ nth z0 i ∧ nth z0 i < 256 := fun i hi => by
    have := u0 (nth z0 i) (by rw [nth_lt hi]; exact List.getElem_mem hi)
    simp [Lit.wf, IntKind.min, IntKind.max, IntKind.bits, IntKind.signed] at this; omega
  clear w1 u0
  unfold maxLen at hb0
  by_cases h64 : 64 < z0.length
  · have m1 : ¬ (z0.length : Int) < 1 := by omega
    have m2 : (1 : Int) ≤ z0.length := by omega
    have m3 : (64 : Int) < z0.length := by omega
    have m4 : ¬ (z0.length : Int) ≤ 64 := by omega
    go_enter Try.func5, Try.ntmps5
    go_wp2_with fail
    refine (wNew 64 1 (by omega) (by omega) (by omega) (by omega) w).mono ?_
    rintro e wa ⟨p, q, g, rfl, h1, hg, hgr⟩
    go_wp2_with fail
    refine (lAwake11 _).mono ?_
    rintro e w9 ⟨rfl, g9⟩
    go_wp2
    go_ret
    exact ⟨rfl, below_of_grown (grown_then hgr g9 (.inl rfl))⟩
  by_cases h0 : z0.length = 0
  · obtain rfl : z0 = [] := List.length_eq_zero_iff.1 h0
    clear h0 h64 hz g0 hb0
    simp only [List.length_nil]
    go_enter Try.func5, Try.ntmps5
    go_wp2_with fail
    refine (wNew 1 1 (by omega) (by omega) (by omega) (by omega) w).mono ?_
    rintro e wa ⟨p, q, g, rfl, h1, hg, hgr⟩
    go_wp2
    go_loopw [8, 48] (fun c i wr => c = .int .i64 0 ∧ i = .int .i64 0 ∧ wr = wa) (fun _ _ _ => 0)
    case atStart => exact ⟨rfl, rfl, rfl⟩
    case round =>
      obtain ⟨rfl, rfl, rfl⟩ := hrel
      have hn : ∀ bs, woke (List.replicate 1 ((1 : Int), (0 : Int))) bs (x1 % 4) (-1) 1 = [] ∧ wokeB (List.replicate 1 ((1 : Int), (0 : Int))) bs (x1 % 4) (-1) 1 = bs := fun bs => woke_none 1 fun i hi => by
        obtain rfl : i = 0 := by omega
        rfl
      have hW1 := wWrote h1 (x1 % 4) (-1)
      rw [(hn _).1, (hn _).2] at hW1
      go_wp2_with fail
      refine hW1.mono ?_
      clear hW1
      rintro e w1 ⟨v1, rfl, hL1, h2, _, k1⟩
      have g1 := h1.more hg hgr k1
      obtain ⟨a1, c1, rfl, _, _, _⟩ := hL1.is
      clear h1 hgr k1 hL1
      have hW2 := wWrote h2 (x1 % 4) (-1)
      rw [(hn _).1, (hn _).2] at hW2
      go_wp2_with fail
      refine hW2.mono ?_
      clear hW2
      rintro e w2 ⟨v2, rfl, hL2, h3, _, k2⟩
      have g2 := h2.more hg g1 k2
      obtain ⟨a2, c2, rfl, _, _, _⟩ := hL2.is
      clear h2 g1 k2 hL2 hn
      go_wp2
      go_loopw [88] (fun i wr => i = .int .i64 0 ∧ wr = w2) (fun _ _ => 0)
      case atStart => exact ⟨rfl, rfl⟩
      case round =>
        obtain ⟨rfl, rfl⟩ := hrel
        go_wp2_with fail
        refine (lAwake11 _).mono ?_
        rintro e w9 ⟨rfl, g9⟩
        go_wp2
        go_ret
        exact ⟨rfl, below_of_grown (grown_then g2 g9 (.inl rfl))⟩
  · have m1 : (1 : Int) ≤ z0.length := by omega
    have m3 : (z0.length : Int) ≤ 64 := by omega
    go_enter Try.func5, Try.ntmps5
    go_wp2_with fail
    have n1 : 1 ≤ z0.length := by omega
    have n2 : z0.length ≤ 64 := by omega
    refine (wNew z0.length 1 n1 n2 (by omega) (by omega) w).mono ?_
    rintro e wa ⟨p, q, g, rfl, h1, hg, hgr⟩
    have hH0 : Half (List.replicate z0.length ((1 : Int), (0 : Int))) z0 z0.length 0 := ⟨fun i hi => by omega, fun i _ hi => by unfold lf; rw [nthO_rep _ _ _ _ hi]⟩
    go_wp2
    go_loopw [8, 48] (fun c i wr => ∃ (k : Nat) (ss : List (Int × Int)), k ≤ z0.length ∧ i = .int .i64 k ∧ c = .int .i64 (mny z0 (x1 % 4) k) ∧ Half ss z0 z0.length k ∧ Wt wr p q g z0.length 1 ss (List.replicate z0.length false) ∧ w.grownBy wr none) (fun _ i _ => z0.length - (intOf i).toNat)
    case atStart => exact ⟨0, _, Nat.zero_le _, rfl, rfl, hH0, h1, hgr⟩
    case round =>
      clear h1 hgr hH0
      obtain ⟨k, ss, hk, rfl, rfl, hH, hw, hgr⟩ := hrel
      by_cases hlt : k < z0.length
      · obtain ⟨bb, off, rfl, hc⟩ := g0.at_ hlt (below_of_grown hgr)
        have hz1 := hz k hlt
        have hle := mny_le z0 (x1 % 4) k
        have e1 : mny z0 (x1 % 4) (k + 1) = if nth z0 k % 4 == x1 % 4 then mny z0 (x1 % 4) k + 1 else mny z0 (x1 % 4) k := rfl
        have hl1 := hH.2 k (Nat.le_refl _) hlt
        have hL := wLook hw k hlt (by omega) (nth z0 k % 4)
        rw [hl1] at hL
        have hH2 : Half (lookS ss k (nth z0 k % 4)) z0 z0.length (k + 1) := by
          unfold lookS
          rw [if_pos hl1]
          refine ⟨fun i hi => ?_, fun i h1 h2 => ?_⟩
          · rw [lf_set (by rw [hw.len]; exact hlt), ad_set (by rw [hw.len]; exact hlt)]
            by_cases e : k = i
            · subst e; rw [if_pos rfl, if_pos rfl]; exact ⟨rfl, rfl⟩
            · rw [if_neg e, if_neg e]; exact hH.1 i (by omega)
          · rw [lf_set (by rw [hw.len]; exact hlt), if_neg (by omega)]; exact hH.2 i (by omega) h2
        generalize nth z0 k = zk at hc hL hH2 hz1 e1
        generalize lookS ss k (zk % 4) = ss2 at hL hH2
        generalize mny z0 (x1 % 4) k = mk at hle e1
        have HH := Lib.hid hH2
        clear hH hH2 hl1
        go_wp2_with fail
        refine hL.mono ?_
        clear hL
        rintro e w2 ⟨rfl, h2, k2⟩
        have HR := Lib.hid (And.intro h2 (hw.more hg hgr k2))
        clear h2 k2 hw hgr
        by_cases hq : zk % 4 = x1 % 4
        · rw [if_pos (by rw [beq_iff_eq]; exact hq)] at e1
          have E1 := Lib.hid e1
          clear e1
          have hq' : (zk % 4 == x1 % 4) = true := by rw [beq_iff_eq]; exact hq
          clear hq
          go_wp2
          go_roundw
          case rel => exact ⟨k + 1, ss2, by omega, by go_num, by rw [E1.out]; go_num, HH.out, HR.out⟩
          case measure => simp [intOf]; omega
        · have hq' : (zk % 4 == x1 % 4) = false := by rw [beq_eq_false_iff_ne]; exact hq
          rw [hq'] at e1
          have E1 := Lib.hid e1
          clear e1 hq
          go_wp2
          go_roundw
          case rel => exact ⟨k + 1, ss2, by omega, by go_num, by rw [E1.out]; rfl, HH.out, HR.out⟩
          case measure => simp [intOf]; omega
      · obtain rfl : k = z0.length := by omega
        have hno : ∀ i, i < z0.length → nthO false (List.replicate z0.length false) i = false := fun i hi => nthO_rep _ _ _ _ hi
        have hwl := woke_half (a := x1 % 4) hH hno z0.length (Nat.le_refl _) (Nat.le_refl _)
        have hW1 := wWrote hw (x1 % 4) (-1)
        have hlb := hw.pm.len
        have hB : ∀ i, i < z0.length → nthO false (wokeB ss (List.replicate z0.length false) (x1 % 4) (-1) z0.length) i = (nth z0 i % 4 == x1 % 4) := fun i hi => by
          obtain ⟨q1, q2⟩ := hH.1 i hi
          rw [wokeB_at _ _ _ _ _ _ (by omega), if_pos hi, hno i hi]
          unfold hit
          rw [q1, q2, hno i hi, show ((i : Int) != -1) = true by rw [bne_iff_ne]; omega]
          simp
        generalize hbs : wokeB ss (List.replicate z0.length false) (x1 % 4) (-1) z0.length = bs1 at hW1 hB
        clear hbs
        generalize woke ss (List.replicate z0.length false) (x1 % 4) (-1) z0.length = l1 at hW1 hwl
        have hwl' : (l1.length : Int) = (mny z0 (x1 % 4) z0.length : Nat) := by rw [hwl]
        have hle := mny_le z0 (x1 % 4) z0.length
        have hn : woke ss bs1 (x1 % 4) (-1) z0.length = [] ∧ wokeB ss bs1 (x1 % 4) (-1) z0.length = bs1 := woke_none _ fun i hi => by
          obtain ⟨q1, q2⟩ := hH.1 i hi
          unfold hit
          rw [hB i hi, q2]
          cases (nth z0 i % 4 == x1 % 4) <;> simp
        go_wp2_with fail
        refine hW1.mono ?_
        clear hW1
        rintro e w1 ⟨v1, rfl, hL1, h2, _, k1⟩
        have g1 := hw.more hg hgr k1
        obtain ⟨a1, c1, rfl, _, _, _⟩ := hL1.is
        clear hw hgr k1 hL1
        have hW2 := wWrote h2 (x1 % 4) (-1)
        rw [hn.1, hn.2] at hW2
        clear hn
        rw [hwl]
        clear hwl hwl'
        generalize mny z0 (x1 % 4) z0.length = mm at hle ⊢
        go_wp2_with fail
        refine hW2.mono ?_
        clear hW2
        rintro e w2 ⟨v2, rfl, hL2, h3, _, k2⟩
        have g2 := h2.more hg g1 k2
        obtain ⟨a2, c2, rfl, _, _, _⟩ := hL2.is
        clear h2 g1 k2 hL2
        go_wp2
        go_loopw [88] (fun i wr => ∃ (t : Nat) (ss : List (Int × Int)) (bs : List Bool), t ≤ z0.length ∧ i = .int .i64 t ∧ (∀ i, t ≤ i → i < z0.length → lf ss i = 0 ∧ ad ss i = nth z0 i % 4 ∧ nthO false bs i = (nth z0 i % 4 == x1 % 4)) ∧ Wt wr p q g z0.length 1 ss bs ∧ w.grownBy wr none) (fun i _ => z0.length - (intOf i).toNat)
        case atStart => exact ⟨0, ss, bs1, Nat.zero_le _, rfl, fun i _ hi => ⟨(hH.1 i hi).1, (hH.1 i hi).2, hB i hi⟩, h3, g2⟩
        case round =>
          clear h3 g2 hB hH hno
          obtain ⟨t, ss, bs, ht, rfl, hs, hw, hgr⟩ := hrel
          by_cases hlt : t < z0.length
          · obtain ⟨bb, off, rfl, hc⟩ := g0.at_ hlt (below_of_grown hgr)
            have hz1 := hz t hlt
            obtain ⟨s1, s2, s3⟩ := hs t (Nat.le_refl _) hlt
            have hP := wParked hw t hlt
            have hR := wResume hw t hlt
            have hlen := hw.len
            have hbl := hw.pm.len
            have hs2 : ∀ i, t + 1 ≤ i → i < z0.length → lf (goS 1 ss bs t) i = 0 ∧ ad (goS 1 ss bs t) i = nth z0 i % 4 ∧ nthO false (goB ss bs t) i = (nth z0 i % 4 == x1 % 4) := fun i h1 h2 => by
              obtain ⟨q1, q2, q3⟩ := hs i (by omega) h2
              unfold goS goB
              split
              · rw [lf_set (by omega), ad_set (by omega), nthO_set (by omega), if_neg (by omega), if_neg (by omega), if_neg (by omega)]; exact ⟨q1, q2, q3⟩
              · exact ⟨q1, q2, q3⟩
            unfold prkV at hP
            unfold goV at hR
            rw [s1, s2, s3] at hP
            rw [s1, s3] at hR
            simp only [true_and, if_true] at hP hR
            generalize goS 1 ss bs t = ss2 at hR hs2
            generalize goB ss bs t = bs2 at hR hs2
            generalize nth z0 t = zt at hc hz1 hP hR
            have HS := Lib.hid hs2
            clear hs2 hs s1 s2 s3 hlen hbl
            cases hq : (zt % 4 == x1 % 4)
            all_goals
              rw [hq] at hP hR
              simp only [if_true, Bool.true_eq_false, if_false] at hP
              go_wp2_with fail
              refine hP.mono ?_
              clear hP
              rintro e w4 ⟨rfl, rfl⟩
              go_wp2_with fail
              refine hR.mono ?_
              clear hR
              rintro e w5 ⟨rfl, h5, k5⟩
              have HR := Lib.hid (And.intro h5 (hw.more hg hgr k5))
              clear h5 k5 hw hgr
              go_wp2
              go_roundw
              case rel => exact ⟨t + 1, ss2, bs2, by omega, by go_num, HS.out, HR.out⟩
              case measure => simp [intOf]; omega
          · obtain rfl : t = z0.length := by omega
            go_wp2_with fail
            refine (lAwake11 _).mono ?_
            rintro e w9 ⟨rfl, g9⟩
            go_wp2
            go_ret
            exact ⟨rfl, below_of_grown (grown_then hgr g9 (.inl rfl))⟩
set_option maxRecDepth 100000 in
theorem lifted (os : Os) (started : os.Started) (H : Type) (enc : TypeId × Value → H) :
    ReturnsInHanded {} Try.checked os 5 .any (Rows.parkAllSpec.pre6 enc Try.prog Try.f5 Rows.parkAllRow.domain false) (Rows.parkAllSpec.post enc Try.prog Try.f5 false true false false) := by
  refine returnsInHanded_of_change (C := Try.checked) own started (by kernel_rfl) Try.func5
    (ChangeSpec.witness6 (enc := enc) (C := Try.checked) false ⟨#[], #[.slice none 0 0, .int .u8 0], []⟩ 8 (by kernel_rfl) (by kernel_rfl) (by kernel_rfl) (by kernel_rfl)) ?_
  intro W base args ds gs before hval0 hW hcnd _
  have hval : ∀ (j : Nat) t v, Try.f5.params[j]? = some t → args[j]? = some v → Value.okWide Try.prog W .any base t v := hval0
  have hW' := hW
  obtain ⟨p, q, hA0, hV, rfl, hfz, hnd⟩ := hW
  have hA : DataW.TrodAll enc Try.prog W 0 (fun _ => true) true Try.f5.params.toList args.toList ds p := hA0
  rw [Try.params5] at hA hval
  obtain ⟨v0, vs0, d0, ds0, p0, q0, hargs, rfl, rfl, h0, r0⟩ := trodAll_cons hA
  obtain ⟨v1, vs1, d1, ds1, p1, q1, rfl, rfl, rfl, h1, r1⟩ := trodAll_cons r0
  obtain ⟨rfl, rfl, rfl⟩ := trodAll_nil r1
  obtain rfl : args = #[v0, v1] := by cases args; simp_all
  obtain ⟨rfl, rfl⟩ := trodVars_none hV
  obtain ⟨a0, len0, cap0, rfl⟩ := okWide_slice Try.underlying47 (hval 0 47 v0 rfl rfl)
  have k0 := h0
  have lt0 : ∀ x ∈ p0, x.block < W.heap.size := by obtain ⟨m, hm⟩ := k0; exact DataW.trod_lt m _ _ _ hm
  obtain ⟨z0, g0, l0, u0, hb0⟩ : ∃ zs, Given .u8 W a0 zs ∧ len0 = zs.length ∧ (∀ n ∈ zs, (Lit.int .u8 n).wf = true) ∧ zs.length ≤ maxLen := by
    obtain ⟨fuel, hf⟩ := h0
    rcases open_ints Try.underlying47 Try.underlying5 (by kernel_rfl) hf with ⟨hcs, _⟩ | ⟨x, l, c, zs, hcs, _, hl, hm, hz, _, hcell, hwz⟩
    · simp [Value.cells] at hcs
      obtain ⟨rfl, rfl, rfl⟩ := hcs
      exact ⟨[], given_nil _ _ _, rfl, by simp, by simp⟩
    · simp [Value.cells] at hcs
      obtain ⟨rfl, rfl, rfl⟩ := hcs
      have hz' : zs.length = cap0 := by simpa using hz
      exact ⟨zs.take len0, given_of (by omega) hcell, by simp; omega, fun n hn => hwz n (List.mem_of_mem_take hn), by simp; omega⟩
  subst l0
  obtain ⟨x1, rfl, rfl, rfl, w1⟩ := open_int Try.underlying5 (hval 1 5 v1 rfl rfl) h1
  clear hA0 hval0
  refine (walk a0 cap0 z0 x1 W g0 u0 hb0 w1).mono fun e W' ⟨he, bel⟩ => ?_
  subst he
  exact ⟨_, rfl, _, _, _, [], _, [], hW', trodAll_mk1 (shut_bool Try.underlying4 _), (trodAll_cons_mk (Below.trod laidOut (by kernel_rfl) (of_decide_eq_true (by kernel_rfl)) k0 bel lt0) (trodAll_cons_mk (shut_int Try.underlying5 w1) trodAll_mk0)), rfl, bel.frame _, fun h => by cases h⟩

theorem over : Rows.parkAllRow.holds Try.pinned (OpenSpec.ofChange Rows.parkAllSpec) :=
  OpenClaim.holds_of_wide 5 Try.f5 rfl rfl rfl rfl rfl rfl rfl ⟨rfl, rfl, rfl, rfl, rfl⟩ rfl rfl rfl rfl rfl (by kernel_rfl) Try.func5 (by kernel_rfl)
    (of_decide_eq_true (by kernel_rfl)) (by unfold Func.isWrapper; first | (rw [if_pos (by decide +kernel)]; kernel_rfl) | (rw [if_neg (by decide +kernel)]; exact ⟨rfl, rfl⟩))
    (fun os started H enc _ => lifted os started H enc)

/-- The statement. -/
theorem proved : Rows.ParkAllSaid := over
#print axioms proved
end Go.Proofs.Ytjdnellafephfaa.parkAll
