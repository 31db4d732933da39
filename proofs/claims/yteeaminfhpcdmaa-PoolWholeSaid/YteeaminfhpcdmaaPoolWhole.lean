/- For every two uint8: PoolWhole returns true, so each thread can take just as many nodes as it has, none of them twice, and all come back, in whatever order; no condition. -/
import Derived.Test.YteeaminfhpcdmaaPoolAll
import Derived.WalkKit
import Derived.ProofKit
import Derived.OpenShut
import Derived.ChangeOld
namespace Go.Proofs.Yteeaminfhpcdmaa.poolWhole
open Go.ChangeShapes Go.WideShapes Go.ChangeAt Go.RowKit Go.Maps
set_option linter.unusedVariables false

theorem own : ownKnob Try.prog.godebug = none := by kernel_rfl
theorem laidOut : laidOutB Try.prog = true := by kernel_rfl

theorem u8_bounds {n : Int} (h : (Lit.int .u8 n).wf = true) : 0 ≤ n ∧ n < 256 := by
  simp [Lit.wf, IntKind.min, IntKind.max, IntKind.bits, IntKind.signed] at h; omega

/-- The Take of node j of thread t. -/
theorem takes {w wr : World} {p n k b t j : Nat} {M : PM} (h : Rel w p n k b (t * k + j) M wr) (ht : t < n) (hj : j < k) :
    Calls Try.prog 14 #[.pointer (some ⟨p, 0, none⟩), .int .i64 t] wr fun e w' => e = .returned (.tuple #[.int .u32 ((t * k + j + 1 : Nat) : Int), .int .i64 0]) ∧ ∃ M',
      Pl w' p n k M' (frs k (t * k + j + 1)) (upTo (t * k + j + 1)) (t * k + j + 1) ∧ Had w' b (t * k + j) ∧ w.grownBy w' none ∧ (∀ i, M'.Has n i → w.heap.size ≤ i) ∧ w.heap.size ≤ b ∧ ¬ M'.Has n b := by
  have hN : n * k ≤ 64 * 8 := Nat.mul_le_mul h.pl.few h.pl.eight
  have hle : (t + 1) * k ≤ n * k := Nat.mul_le_mul_right _ ht
  rw [Nat.add_mul, Nat.one_mul] at hle
  refine (plTake h.pl (by omega) t ht (frs_at k t j hj) (by omega) (by omega) (upTo_not _)).mono ?_
  rintro e w2 ⟨M2, rfl, hp2, s2⟩
  rw [upTo_next, frs_next k t j hj] at hp2
  obtain ⟨g2, m2⟩ := stays_grown h.gr h.new s2
  refine ⟨rfl, M2, hp2, h.had.within s2.2.1 h.apart, g2, m2, h.nb, fun e => ?_⟩
  rcases s2.2.2 b e with e | e
  · exact h.apart e
  · have := h.had.lt; omega

set_option maxHeartbeats 2000000 in
set_option maxRecDepth 100000 in
theorem walkN (x0 x1 : Nat) (w : World) (w0 : x0 < 256) (w1 : x1 < 256) :
    Calls Try.prog 5 #[.int .u8 x0, .int .u8 x1] w fun e w' => e = .returned (.bool true) ∧ Below w.heap.size w w' := by
  obtain ⟨n, hn, hn1, hn64⟩ : ∃ n : Nat, 1 + (x0 : Int) % 64 = n ∧ 1 ≤ n ∧ n ≤ 64 := ⟨1 + x0 % 64, by omega, by omega, by omega⟩
  obtain ⟨k, hk, hk8⟩ : ∃ k : Nat, (x1 : Int) % 9 = k ∧ k ≤ 8 := ⟨x1 % 9, by omega, by omega⟩
  have HK := Lib.hid hk
  have HN := Lib.hid hn
  have hNk : n * k ≤ 64 * 8 := Nat.mul_le_mul hn64 hk8
  have HNK := Lib.hid hNk
  clear hk hn hNk
  have hmm := @run_makeMap Try.prog
  go_enter Try.func5, Try.ntmps5
  go_wp2_with fail
  rw [HK.out, HN.out]
  refine (plNew n k hn1 hn64 hk8 w).mono ?_
  rintro e a1 ⟨p, M, rfl, h1, hg, hM, _, _⟩
  rw [← frs_0, ← upTo_0] at h1
  go_wp2
  clear hmm
  have hR : Rel w p n k a1.heap.size 0 M (a1.alloc (.map #[] 0)) :=
    ⟨h1.grown (grown_made _ _ none), Had.made a1, grown_then hg (grown_made _ _ none) (.inl rfl), hM, hg.size, fun e => by have := h1.lt e; omega⟩
  generalize a1.alloc (.map #[] 0) = a2 at hR ⊢
  generalize a1.heap.size = b at hR ⊢
  clear h1 hg hM
  have HR := Lib.hid hR
  clear hR
  go_loopw [39] (fun j wr => ∃ (t : Nat) (M : PM), t ≤ n ∧ j = .int .i64 t ∧ Rel w p n k b (t * k) M wr) (fun i _ => n - (intOf i).toNat)
  case atStart => exact ⟨0, M, Nat.zero_le _, rfl, by rw [Nat.zero_mul]; exact HR.out⟩
  case round =>
    clear HR
    obtain ⟨t, M, ht, rfl, hR⟩ := hrel
    by_cases hlt : t < n
    · go_wp2
      go_loopw [43] (fun i wr' => ∃ (j : Nat) (M : PM), j ≤ k ∧ i = .int .i64 j ∧ Rel w p n k b (t * k + j) M wr') (fun i _ => k - (intOf i).toNat)
      case atStart => exact ⟨0, M, Nat.zero_le _, rfl, hR⟩
      case round =>
        clear hR
        obtain ⟨j, M, hj, rfl, hR⟩ := hrel
        by_cases hjk : j < k
        · have hle : (t + 1) * k ≤ n * k := Nat.mul_le_mul_right _ hlt
          rw [Nat.add_mul, Nat.one_mul] at hle
          have hsm : t * k + j < 1000 := by have := HNK.out; omega
          have hT := takes hR hlt hjk
          clear hle
          generalize hX : t * k + j = m at *
          have HX := Lib.hid hX
          clear hX
          have HSM := Lib.hid hsm
          clear hsm
          go_wp2_with fail
          refine hT.mono ?_
          clear hT
          rintro e w2 ⟨rfl, M2, hp2, hh2, g2, m2, nb2, ab2⟩
          have hO := plOwner hp2 ((m + 1 : Nat) : Int) (by omega) (by have := HSM.out; omega) hjk hlt (by have := HSM.out; have := HX.out; omega)
          have hb0 : (0 : Int) < ((m + 1 : Nat) : Int) := by omega
          generalize hY : ((m + 1 : Nat) : Int) = Y at *
          have HY := Lib.hid hY
          clear hY hR
          have t1 : (Y == 0) = false := by simp; omega
          go_wp2_with fail
          refine hO.mono ?_
          clear hO
          rintro e w3 ⟨rfl, q, rfl⟩
          have hp3 := hp2.drewN q
          have hh3 : Had (w2.drewN q) b m := hh2
          have g3 : w.grownBy (w2.drewN q) none := grown_draws g2 q
          generalize w2.drewN q = w3 at hp3 hh3 g3 ⊢
          clear hp2 hh2 g2
          have hlook := hh3.look HSM.out
          obtain ⟨w4, hup, hh4, g4⟩ := hh3.add HSM.out
          rw [HY.out] at hlook hup
          have hR4 : Rel w p n k b (m + 1) M2 w4 := by
            have hk4 : Within w3 w4 (fun i => i = b) := .of_grown g4 (by simp)
            refine ⟨hp3.kept hk4 (fun e => hh3.not_bk hp3.ptr e.symm) (fun e => hh3.not_bk hp3.row e.symm) (fun i hi e => ab2 (e ▸ hi)), hh4, ?_, m2, nb2, ab2⟩
            exact grown_then g3 g4 (.inr fun y e => by injection e with e; subst e; exact nb2)
          rw [← HX.out] at hR4
          have HR4 := Lib.hid hR4
          clear hR4 hp3 hh3 g3 hh4 g4 m2 nb2 ab2
          go_wp2
          go_roundw
          case rel => exact ⟨j + 1, M2, by omega, by go_num, HR4.out⟩
          case measure => simp [intOf]; omega
        · obtain rfl : j = k := by omega
          have hp := hR.pl
          have hfe := frs_end j t
          have hO := plOut hp t hlt
          rw [hfe] at hO
          simp only [List.length_nil, Nat.sub_zero] at hO
          have HF := Lib.hid hfe
          clear hfe
          go_wp2_with fail
          refine (plTakeNone hp t hlt HF.out).mono ?_
          rintro e w2 ⟨rfl, rfl⟩
          go_wp2_with fail
          refine hO.mono ?_
          rintro e w2 ⟨rfl, q, rfl⟩
          have hR2 : Rel w p n j b ((t + 1) * j) M (wr.drewN q) := by
            rw [Nat.add_mul, Nat.one_mul]
            exact ⟨hR.pl.drewN q, hR.had, grown_draws hR.gr q, hR.new, hR.nb, hR.apart⟩
          have HR2 := Lib.hid hR2
          clear hR2 hR hp hO
          go_wp2
          go_roundw
          case rel => exact ⟨t + 1, M, by omega, by go_num, HR2.out⟩
          case measure => simp [intOf]; omega
    · obtain rfl : t = n := by omega
      have hT := plTotal hR.pl
      have e1 : ((t * k : Nat) : Int) = (t : Int) * (k : Int) := by simp
      have e2 : wrap64 ((t : Int) * (k : Int)) = ((t * k : Nat) : Int) := by rw [← e1]; exact IntWalk.wrap64_in _ (by have := HNK.out; omega)
      have hsm : t * k ≤ 512 := HNK.out
      have HTOT := Lib.hid (tot_all k (t * k) t (Nat.le_refl _))
      have HALL := Lib.hid (fun s (hs : s < t) => outs_all s k (t * k) k (by
        have : (s + 1) * k ≤ t * k := Nat.mul_le_mul_right _ hs
        rw [Nat.add_mul, Nat.one_mul] at this; exact this))
      have HFR := Lib.hid (fun s (hs : s < t) => show (frs k (t * k) s).length = 0 by
        have : (s + 1) * k ≤ t * k := Nat.mul_le_mul_right _ hs
        rw [Nat.add_mul, Nat.one_mul] at this
        unfold frs
        rw [List.length_drop, firsts_len]; omega)
      obtain ⟨D, hown, hsz, hhas⟩ := hR.had
      have HS := Lib.hid hsz
      have HH := Lib.hid hhas
      clear hsz hhas
      generalize hN : t * k = N at *
      have HE := Lib.hid hN
      clear hN
      have HE1 := Lib.hid e1
      rw [← e1] at e2
      go_wp2_with fail
      refine hT.mono ?_
      clear hT
      rintro e w2 ⟨rfl, rfl⟩
      go_wp2_with (first | (at_range; refine wpList_range_own _ rfl _ 51 rfl 31 3 keyed32 Try.underlying51 _ b N D rfl hown ?_; intro wA hrgA hgA hsA) | go_in)
      have hB : Back w p t k b wr.heap.size D (Maps.has D) (Maps.size D) M (frs k N) (upTo N) wA := by
        refine ⟨by rw [HE.out]; exact hrgA, by rw [HTOT.out]; exact hR.pl.grown hgA, fun x h0 h1 => (HH.out x h0 h1).1.symm, fun x hx => ?_, fun s hs => ?_, grown_then hR.gr hgA (.inl rfl), hR.new, hR.gr.size, hR.apart, fun e => ?_⟩
        · rw [HE.out]; unfold upTo at hx; exact of_decide_eq_true hx
        · rw [HFR.out s hs, HALL.out s hs]; omega
        · have := hR.pl.lt e; omega
      generalize wr.heap.size = r at hB ⊢
      have HB := Lib.hid hB
      clear hB hrgA hgA hsA hown hR e1 e2 HE1
      go_frame
      go_loopw [17] (fun _ wq => ∃ (left : Lit → Bool) (cnt : Nat) (M : PM) (fr : Nat → List Int) (os : Int → Bool), Back w p t k b r D left cnt M fr os wq) (fun _ wq => wq.rangeLeft b r)
      case atStart => exact ⟨_, _, _, _, _, HB.out⟩
      case round =>
        clear HB
        obtain ⟨left, cnt, M, fr, os, hB⟩ := hrel
        have hrg := hB.rg
        have hown := hrg
        go_wp2_with (first | (at_next; refine wpList_next_ranges_ii _ rfl _ rfl 31 3 .u32 .i64 keyed32 Try.underlying31 Try.underlying3 b r (t * k) _ _ _ rfl hrg ?_ ?_) | go_in)
        · intro _ hl0
          have h0 : tot os k t = 0 := tot_none os k t (fun x hx => by rw [hB.same x (by omega) (by have := HE.out; omega)]; exact hl0 _)
          have hT := plTotal hB.pl
          rw [h0] at hT
          have hg := hB.gr
          clear hB hrg hown hl0
          go_wp2_with fail
          refine hT.mono ?_
          clear hT
          rintro e w2 ⟨rfl, rfl⟩
          go_wp2_with fail
          refine (lAwake _).mono ?_
          rintro e a6 ⟨rfl, hw6⟩
          go_wp2
          go_ret
          exact ⟨rfl, below_of_grown (grown_then hg hw6 (.inl rfl))⟩
        · intro x c wB cnt1 hwx hwc hlx hat hrg1 hlt1 hg1 hs1 hen
          obtain ⟨x0', x1'⟩ := u32_bounds hwx
          have hF := hB.step x0' x1' hlx hrg1 hg1
          have HL := Lib.hid hrg.left_eq
          have HLT := Lib.hid hlt1
          clear hB hrg hown hat hrg1 hg1 hs1 hlx hwc hlt1
          go_wp2_with fail
          refine hF.mono ?_
          clear hF
          rintro e w3 ⟨rfl, M3, fr3, os3, hB3⟩
          go_wp2
          go_roundw
          case rel => exact ⟨_, _, _, _, _, hB3⟩
          case measure => rw [hB3.rg.left_eq, HL.out]; exact HLT.out

theorem walk (x0 x1 : Int) (w : World) (w0 : (Lit.int .u8 x0).wf = true) (w1 : (Lit.int .u8 x1).wf = true) :
    Calls Try.prog 5 #[.int .u8 x0, .int .u8 x1] w fun e w' => e = .returned (.bool true) ∧ Below w.heap.size w w' := by
  obtain ⟨a0, b0⟩ := u8_bounds w0
  obtain ⟨a1, b1⟩ := u8_bounds w1
  obtain ⟨y0, rfl⟩ := Int.eq_ofNat_of_zero_le a0
  obtain ⟨y1, rfl⟩ := Int.eq_ofNat_of_zero_le a1
  exact walkN y0 y1 w (by omega) (by omega)

set_option maxRecDepth 100000 in
theorem lifted (os : Os) (started : os.Started) (H : Type) (enc : TypeId × Value → H) :
    ReturnsInHanded {} Try.checked os 5 .any (Rows.poolWholeSpec.pre6 enc Try.prog Try.f5 Rows.poolWholeRow.domain false) (Rows.poolWholeSpec.post enc Try.prog Try.f5 false true false false) := by
  refine returnsInHanded_of_change (C := Try.checked) own started (by kernel_rfl) Try.func5
    (ChangeSpec.witness6 (enc := enc) (C := Try.checked) false ⟨#[], #[.int .u8 0, .int .u8 0], []⟩ 8 (by kernel_rfl) (by kernel_rfl) (by kernel_rfl) (by kernel_rfl)) ?_
  intro W base args ds gs before hval0 hW hcnd _
  have hval : ∀ (j : Nat) t v, Try.f5.params[j]? = some t → args[j]? = some v → Value.okWide Try.prog W .any base t v := hval0
  have hW' := hW
  obtain ⟨p, q, hA0, hV, rfl, hfz, hnd⟩ := hW
  have hA : DataW.TrodAll enc Try.prog W 0 (fun _ => true) true Try.f5.params.toList args.toList ds p := hA0
  rw [Try.params5] at hA hval
  obtain ⟨v0, vs0, d0, ds0, p0, q0, hargs, rfl, rfl, h0, r0⟩ := trodAll_cons hA
  obtain ⟨v1, vs1, d1, ds1, p1, q1, rfl, rfl, rfl, h1, r1⟩ := trodAll_cons r0
  obtain ⟨rfl, rfl, rfl⟩ := trodAll_nil r1
  obtain rfl : args = #[v0, v1] := by cases args; simp_all
  obtain ⟨rfl, rfl⟩ := trodVars_none hV
  obtain ⟨x0, rfl, rfl, rfl, w0⟩ := open_int Try.underlying5 (hval 0 5 v0 rfl rfl) h0
  obtain ⟨x1, rfl, rfl, rfl, w1⟩ := open_int Try.underlying5 (hval 1 5 v1 rfl rfl) h1
  clear hA0 hval0
  refine (walk x0 x1 W w0 w1).mono fun e W' ⟨he, bel⟩ => ?_
  subst he
  exact ⟨_, rfl, _, _, _, [], _, [], hW', trodAll_mk1 (shut_bool Try.underlying4 _), (trodAll_cons_mk (shut_int Try.underlying5 w0) (trodAll_cons_mk (shut_int Try.underlying5 w1) trodAll_mk0)), rfl, bel.frame _, fun h => by cases h⟩

theorem over : Rows.poolWholeRow.holds Try.pinned (OpenSpec.ofChange Rows.poolWholeSpec) :=
  OpenClaim.holds_of_wide 5 Try.f5 rfl rfl rfl rfl rfl rfl rfl ⟨rfl, rfl, rfl, rfl, rfl⟩ rfl rfl rfl rfl rfl (by kernel_rfl) Try.func5 (by kernel_rfl)
    (of_decide_eq_true (by kernel_rfl)) (by unfold Func.isWrapper; first | (rw [if_pos (by decide +kernel)]; kernel_rfl) | (rw [if_neg (by decide +kernel)]; exact ⟨rfl, rfl⟩))
    (fun os started H enc _ => lifted os started H enc)

/-- The statement. -/
theorem proved : Rows.PoolWholeSaid := over
#print axioms proved
end Go.Proofs.Yteeaminfhpcdmaa.poolWhole
