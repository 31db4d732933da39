/- For every int n and every list of accesses: CellPlays returns true, so whatever accesses there are, each answer, and all cells, are what the document says; no condition. -/
import Derived.Test.YtplfcfijopdmfaaCellLaw
import Derived.Test.YtplfcfijopdmfaaRecs
import Derived.WalkKit
import Derived.ProofKit
import Derived.OpenShut
import Derived.ChangeOld
import Derived.Deep.QuietTactic
import Derived.BigQuiet
namespace Go.Proofs.Ytplfcfijopdmfaa.cellPlays
open Go.ChangeShapes Go.WideShapes Go.ChangeAt Go.RowKit
set_option linter.unusedVariables false

theorem own : ownKnob Try.prog.godebug = none := by kernel_rfl
theorem laidOut : laidOutB Try.prog = true := by kernel_rfl

/-- What the cells of an access are: Kind, A, Old, V. -/
def OpCell (j : Nat) (u : Value) : Prop :=
  match j with
  | 0 => ∃ x, u = .int .i64 x
  | 1 => ∃ x, u = .int .i64 x
  | _ => ∃ x, u = .int .u32 x ∧ 0 ≤ x ∧ x < 4294967296

theorem own_then {a b c : World} {g : Nat} (h : a.grownBy b none) (k : Only b c g) (hg : a.heap.size ≤ g) : a.grownBy c none :=
  grown_then h k (.inr fun x e => by injection e with e; omega)
theorem leaves_len (k : Int) (a : Nat) (o v : Int) (xs : List Int) : (leaves k a o v xs).length = xs.length := by
  unfold leaves
  repeat' split
  all_goals simp

def Rel (w : World) (p g q cap n : Nat) (xs : List Int) (wr : World) : Prop := xs.length = n ∧ Wds wr q cap xs ∧ Cel wr p g xs ∧ w.grownBy wr none

set_option maxHeartbeats 2000000 in
set_option maxRecDepth 100000 in
theorem walk (n : Int) (a1 : Option Addr) (len cap1 : Nat) (w : World) (g1 : Recs w a1 len 4 OpCell) (hm : len ≤ maxLen) :
    Calls Try.prog 3 #[.int .i64 n, .slice a1 len cap1] w fun e w' => e = .returned (.bool true) ∧ Below w.heap.size w w' := by
  unfold maxLen at hm
  by_cases h100 : 100 < len
  · go_enter Try.func3, Try.ntmps3
    go_wp2_with fail
    refine (lAwake _).mono ?_
    rintro e w2 ⟨rfl, hw2⟩
    go_wp2
    go_ret
    exact ⟨rfl, below_of_grown hw2⟩
  rcases (show n < 0 ∨ 8192 < n ∨ (0 ≤ n ∧ n ≤ 8192) from by omega) with hn | hn | hn
  · go_enter Try.func3, Try.ntmps3
    go_wp2_with fail
    refine (cNewBad n (.inl hn) _).mono ?_
    rintro e w1 ⟨rfl, rfl⟩
    go_wp2_with fail
    refine (lAwake _).mono ?_
    rintro e w2 ⟨rfl, hw2⟩
    go_wp2
    go_ret
    exact ⟨rfl, below_of_grown hw2⟩
  · have hn0 : ¬ n < 0 := by omega
    go_enter Try.func3, Try.ntmps3
    go_wp2_with fail
    refine (cNewBad n (.inr hn) _).mono ?_
    rintro e w1 ⟨rfl, rfl⟩
    go_wp2_with fail
    refine (lAwake _).mono ?_
    rintro e w2 ⟨rfl, hw2⟩
    go_wp2
    go_ret
    exact ⟨rfl, below_of_grown hw2⟩
  obtain ⟨N, rfl⟩ := Int.eq_ofNat_of_zero_le hn.1
  by_cases h40 : 40 < N
  · go_enter Try.func3, Try.ntmps3
    go_wp2_with fail
    refine (cNew N (by omega) _).mono ?_
    rintro e w1 ⟨p, g, rfl, hc, hp, hg, hw1⟩
    go_wp2_with fail
    refine (cLen hc).mono ?_
    rintro e w2 ⟨rfl, rfl⟩
    rw [List.length_replicate]
    go_wp2_with fail
    refine (lAwake _).mono ?_
    rintro e w2 ⟨rfl, hw2⟩
    go_wp2
    go_ret
    exact ⟨rfl, below_of_grown (grown_then hw1 hw2 (.inl rfl))⟩
  · obtain ⟨i0, hi0, hz0, hz1, hz2⟩ := info_parts u32info
    have hmk := fun W : World => run_make (P := Try.prog) W 29 30 i0 _ Try.underlying29 hi0 hz0 .i64 .i64 N N (by omega) (by omega) (by rw [hz2]; omega) (by omega)
    rw [hz1] at hmk
    clear hi0 hz0 hz1 hz2
    go_enter Try.func3, Try.ntmps3
    go_wp2_with fail
    refine (cNew N (by omega) _).mono ?_
    rintro e w1 ⟨p, g, rfl, hc, hp, hg, hw1⟩
    go_wp2_with fail
    refine (cLen hc).mono ?_
    rintro e w2 ⟨rfl, rfl⟩
    rw [List.length_replicate]
    go_wp2
    clear hmk
    go_loopw [7, 57] (fun s i wr => ∃ (k q cap : Nat) (xs : List Int), k ≤ len ∧ i = .int .i64 k ∧ s = .slice (some ⟨q, 0, none⟩) N cap ∧ Rel w p g q cap N xs wr) (fun _ i _ => len - (intOf i).toNat)
    case atStart =>
      refine ⟨0, w1.heap.size, N, List.replicate N 0, Nat.zero_le _, rfl, rfl, by simp, ?_, hc.alloc _, grown_then hw1 (grown_made _ _ none) (.inl rfl)⟩
      rw [made_words]
      have := Wds.of_bk (Bk.made w1 30 (words (List.replicate N 0))) (by simp; unfold maxLen; omega)
      simpa using this
    case round =>
      obtain ⟨k, q, cap, xs, hk, rfl, rfl, hl, hz, hc2, hw2⟩ := hrel
      by_cases hlt : k < len
      · obtain ⟨b, off, rfl, hcs⟩ := g1.at_ hlt (below_of_grown hw2)
        obtain ⟨_, r0, kd, rfl⟩ := hcs 0 (by omega)
        obtain ⟨_, r1, ad, rfl⟩ := hcs 1 (by omega)
        obtain ⟨_, r2, o, rfl, ho⟩ := hcs 2 (by omega)
        obtain ⟨_, r3, v, rfl, hv⟩ := hcs 3 (by omega)
        have HL := Lib.hid hl
        clear hl hcs
        rw [Nat.add_zero] at r0
        rcases (show kd < 1 ∨ 5 < kd ∨ (1 ≤ kd ∧ kd ≤ 5 ∧ ad < 0) ∨ (1 ≤ kd ∧ kd ≤ 5 ∧ (N : Int) ≤ ad) ∨ (1 ≤ kd ∧ kd ≤ 5 ∧ 0 ≤ ad ∧ ad < N) from by omega) with c | c | c | c | c
        · go_wp2
          go_roundw
          case rel => exact ⟨k + 1, q, cap, xs, by omega, by go_num, rfl, HL.out, hz.kept (grown_made _ _ none) (by simp), hc2.alloc _, grown_then hw2 (grown_made _ _ none) (.inl rfl)⟩
          case measure => simp [intOf]; omega
        · go_wp2
          go_roundw
          case rel => exact ⟨k + 1, q, cap, xs, by omega, by go_num, rfl, HL.out, hz.kept (grown_made _ _ none) (by simp), hc2.alloc _, grown_then hw2 (grown_made _ _ none) (.inl rfl)⟩
          case measure => simp [intOf]; omega
        · go_wp2
          go_roundw
          case rel => exact ⟨k + 1, q, cap, xs, by omega, by go_num, rfl, HL.out, hz.kept (grown_made _ _ none) (by simp), hc2.alloc _, grown_then hw2 (grown_made _ _ none) (.inl rfl)⟩
          case measure => simp [intOf]; omega
        · go_wp2
          go_roundw
          case rel => exact ⟨k + 1, q, cap, xs, by omega, by go_num, rfl, HL.out, hz.kept (grown_made _ _ none) (by simp), hc2.alloc _, grown_then hw2 (grown_made _ _ none) (.inl rfl)⟩
          case measure => simp [intOf]; omega
        · obtain ⟨a, rfl⟩ := Int.eq_ofNat_of_zero_le c.2.2.1
          have hal : a < xs.length := by rw [HL.out]; omega
          have hB := Bk.made wr 32 #[.int .i64 kd, .int .i64 a, .int .u32 o, .int .u32 v]
          have hA := grown_made wr (.cells #[.int .i64 kd, .int .i64 a, .int .u32 o, .int .u32 v] 32) none
          go_wp2_with fail
          generalize wr.alloc (.cells #[.int .i64 kd, .int .i64 a, .int .u32 o, .int .u32 v] 32) = wa at hB hA ⊢
          have hza := hz.kept hA (by simp)
          have hca := hc2.kept hA (by simp) (by simp)
          have hwa := grown_then hw2 hA (.inl rfl)
          have hD := rDo hza kd a o v ⟨c.1, c.2.1⟩ hal hca.rng hca.few
          rw [HL.out] at hD
          refine hD.mono ?_
          clear hD
          rintro e w3 ⟨q3, cap3, rfl, hz3, hq3, hw3⟩
          rw [leaves_len, HL.out]
          have hB3 := hB.grown hw3 (by simp)
          have hc3 := hca.kept hw3 (by simp) (by simp)
          have hw3' := grown_then hwa hw3 (.inl rfl)
          have o0 := hB3.cell 0
          have o1 := hB3.cell 1
          have o2 := hB3.cell 2
          have o3 := hB3.cell 3
          simp only [List.getElem?_toArray, List.getElem?_cons_zero, List.getElem?_cons_succ] at o0 o1 o2 o3
          clear hz hc2 hw2 r0 r1 r2 r3 hA hza hca hwa hw3 hB hB3
          have hT := lTold hc3 kd a o v ⟨c.1, c.2.1⟩ hal hv
          unfold opv at hT
          have HT := Lib.hid hT
          clear hT
          go_wp2_with fail
          refine HT.out.mono ?_
          rintro e w4 ⟨rfl, hc4, hw4⟩
          clear HT o0 o1 o2 o3
          have hz4 : Wds w4 q3 cap3 (leaves kd a o v xs) := hz3.kept hw4 (fun e => by
            injection e with e
            obtain ⟨cs, hb, _⟩ := hz3.bk
            exact hb.unlike hc3.row (by decide) e)
          have hw4' := own_then hw3' hw4 hg
          go_wp2
          go_roundw
          case rel => exact ⟨k + 1, q3, cap3, _, by omega, by go_num, rfl, (leaves_len _ _ _ _ _).trans HL.out, hz4, hc4, hw4'⟩
          case measure => simp [intOf]; omega
      · go_wp2_with fail
        refine (cWords hc2).mono ?_
        rintro e w3 ⟨q3, rfl, hq3, hc3, hqq, hw3⟩
        rw [hl]
        have hz3 := hz.kept hw3 (by simp)
        have hw3' := grown_then hw2 hw3 (.inl rfl)
        have HL := Lib.hid hl
        clear hl hz hc2 hw2 hw3
        go_wp2
        go_loopw [108] (fun i wr => ∃ k : Nat, k ≤ N ∧ i = .int .i64 k ∧ Bk wr q3 30 (words xs) ∧ Wds wr q cap xs ∧ w.grownBy wr none) (fun i _ => N - (intOf i).toNat)
        case atStart => exact ⟨0, Nat.zero_le _, rfl, hq3, hz3, hw3'⟩
        case round =>
          obtain ⟨j, hj, rfl, hb, hz, hw⟩ := hrel
          by_cases hlt : j < N
          · have c1 := hb.cell j
            rw [words_at xs j (by rw [HL.out]; exact hlt)] at c1
            have c2 := hz.at_ (i := j) (by rw [HL.out]; exact hlt)
            go_wp2
            go_quiet (fail)
            go_wp2
            go_roundw
            case rel => exact ⟨j + 1, by omega, by go_num, hb, hz, grown_draws hw _⟩
            case measure => simp [intOf]; omega
          · go_wp2_with fail
            refine (lAwake _).mono ?_
            rintro e w9 ⟨rfl, hw9⟩
            go_wp2
            go_ret
            exact ⟨rfl, below_of_grown (grown_then hw hw9 (.inl rfl))⟩

set_option maxRecDepth 100000 in
theorem lifted (os : Os) (started : os.Started) (H : Type) (enc : TypeId × Value → H) :
    ReturnsInHanded {} Try.checked os 3 .any (Rows.cellPlaysSpec.pre6 enc Try.prog Try.f3 Rows.cellPlaysRow.domain false) (Rows.cellPlaysSpec.post enc Try.prog Try.f3 false true false false) := by
  refine returnsInHanded_of_change (C := Try.checked) own started (by kernel_rfl) Try.func3
    (ChangeSpec.witness6 (enc := enc) (C := Try.checked) false ⟨#[], #[.int .i64 0, .slice none 0 0], []⟩ 8 (by kernel_rfl) (by kernel_rfl) (by kernel_rfl) (by kernel_rfl)) ?_
  intro W base args ds gs before hval0 hW hcnd _
  have hval : ∀ (j : Nat) t v, Try.f3.params[j]? = some t → args[j]? = some v → Value.okWide Try.prog W .any base t v := hval0
  have hW' := hW
  obtain ⟨p, q, hA0, hV, rfl, hfz, hnd⟩ := hW
  have hA : DataW.TrodAll enc Try.prog W 0 (fun _ => true) true Try.f3.params.toList args.toList ds p := hA0
  rw [Try.params3] at hA hval
  obtain ⟨v0, vs0, d0, ds0, p0, q0, hargs, rfl, rfl, h0, r0⟩ := trodAll_cons hA
  obtain ⟨v1, vs1, d1, ds1, p1, q1, rfl, rfl, rfl, h1, r1⟩ := trodAll_cons r0
  obtain ⟨rfl, rfl, rfl⟩ := trodAll_nil r1
  obtain rfl : args = #[v0, v1] := by cases args; simp_all
  obtain ⟨rfl, rfl⟩ := trodVars_none hV
  obtain ⟨x0, rfl, rfl, rfl, w0⟩ := open_int Try.underlying3 (hval 0 3 v0 rfl rfl) h0
  obtain ⟨a1, len1, cap1, rfl⟩ := okWide_slice Try.underlying22 (hval 1 22 v1 rfl rfl)
  have k1 := h1
  have lt1 : ∀ x ∈ p1, x.block < W.heap.size := by obtain ⟨m, hm⟩ := k1; exact DataW.trod_lt m _ _ _ hm
  obtain ⟨hb1, g1⟩ : len1 ≤ maxLen ∧ Recs W a1 len1 4 OpCell := by
    obtain ⟨fuel, hf⟩ := h1
    obtain ⟨hle, hr⟩ := open_recs Try.underlying22 Try.underlying32 (by kernel_rfl) (by kernel_rfl) (by decide) (by simpa [Value.cells] using hf)
    refine ⟨hle, fun h0 => ?_⟩
    obtain ⟨b, off, e, hlt, hc⟩ := hr h0
    refine ⟨b, off, e, hlt, fun i hi j hj => ?_⟩
    obtain ⟨u, hu, hw⟩ := hc i hi j hj
    refine ⟨u, hu, ?_⟩
    match j, hj with
    | 0, _ => obtain ⟨n, y, hy⟩ := hw _ rfl; obtain ⟨x, e, _, wx⟩ := DataW.trod_int Try.underlying3 hy; simp at e; subst e; exact ⟨x, rfl⟩
    | 1, _ => obtain ⟨n, y, hy⟩ := hw _ rfl; obtain ⟨x, e, _, wx⟩ := DataW.trod_int Try.underlying3 hy; simp at e; subst e; exact ⟨x, rfl⟩
    | 2, _ => obtain ⟨n, y, hy⟩ := hw _ rfl; obtain ⟨x, e, _, wx⟩ := DataW.trod_int Try.underlying30 hy; simp at e; subst e; exact ⟨x, rfl, u32_bounds wx⟩
    | 3, _ => obtain ⟨n, y, hy⟩ := hw _ rfl; obtain ⟨x, e, _, wx⟩ := DataW.trod_int Try.underlying30 hy; simp at e; subst e; exact ⟨x, rfl, u32_bounds wx⟩
  clear hA0 hval0
  refine (walk x0 a1 len1 cap1 W g1 hb1).mono fun e W' ⟨he, bel⟩ => ?_
  subst he
  exact ⟨_, rfl, _, _, _, [], _, [], hW', trodAll_mk1 (shut_bool Try.underlying4 _), (trodAll_cons_mk (shut_int Try.underlying3 w0) (trodAll_cons_mk (Below.trod laidOut (by kernel_rfl) (of_decide_eq_true (by kernel_rfl)) k1 bel lt1) trodAll_mk0)), rfl, bel.frame _, fun h => by cases h⟩

theorem over : Rows.cellPlaysRow.holds Try.pinned (OpenSpec.ofChange Rows.cellPlaysSpec) :=
  OpenClaim.holds_of_wide 3 Try.f3 rfl rfl rfl rfl rfl rfl rfl ⟨rfl, rfl, rfl, rfl, rfl⟩ rfl rfl rfl rfl rfl (by kernel_rfl) Try.func3 (by kernel_rfl)
    (of_decide_eq_true (by kernel_rfl)) (by unfold Func.isWrapper; first | (rw [if_pos (by decide +kernel)]; kernel_rfl) | (rw [if_neg (by decide +kernel)]; exact ⟨rfl, rfl⟩))
    (fun os started H enc _ => lifted os started H enc)

/-- The statement. -/
theorem proved : Rows.CellPlaysSaid := over
#print axioms proved
end Go.Proofs.Ytplfcfijopdmfaa.cellPlays
