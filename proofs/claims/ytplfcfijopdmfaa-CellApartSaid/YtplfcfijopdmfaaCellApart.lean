/- For every list of words of 32 bits and every access o: CellApart returns true, so what is told of all cells is a list of its own, and an access of one cell leaves all others; no condition. -/
import Derived.Test.YtplfcfijopdmfaaCellLaw
import Derived.WalkKit
import Derived.ProofKit
import Derived.OpenShut
import Derived.ChangeOld
import Derived.Lib.SmallJoins
namespace Go.Proofs.Ytplfcfijopdmfaa.cellApart
open Go.ChangeShapes Go.WideShapes Go.ChangeAt Go.RowKit
set_option linter.unusedVariables false

theorem own : ownKnob Try.prog.godebug = none := by kernel_rfl
theorem laidOut : laidOutB Try.prog = true := by kernel_rfl

theorem own_then {a b c : World} {g : Nat} (h : a.grownBy b none) (k : Only b c g) (hg : a.heap.size ≤ g) : a.grownBy c none :=
  grown_then h k (.inr fun x e => by injection e with e; omega)

theorem leaves_other (k : Int) (a : Nat) (o v : Int) (xs : List Int) (i : Nat) (ha : a < xs.length) (hi : i ≠ a) : nth (leaves k a o v xs) i = nth xs i := by
  have hne : ¬ a = i := fun h => hi h.symm
  unfold leaves
  repeat' split
  all_goals first | rfl | rw [nth_set ha, if_neg hne]
theorem leaves_len (k : Int) (a : Nat) (o v : Int) (xs : List Int) : (leaves k a o v xs).length = xs.length := by
  unfold leaves
  repeat' split
  all_goals simp

def Rel (w0 : World) (p g : Nat) (ys : List Int) (wr : World) : Prop := Cel wr p g ys ∧ w0.grownBy wr none
def Rel2 (w0 : World) (p g q n : Nat) (xs : List Int) (wr : World) : Prop := ∃ zs, zs.length = n ∧ Wds wr q n zs ∧ Cel wr p g xs ∧ w0.grownBy wr none

theorem rel2_step {w0 wr : World} {p g q n : Nat} {xs zs : List Int} (hl : zs.length = n) (hz : Wds wr q n zs) (hc : Cel wr p g xs) (hw : w0.grownBy wr none) (hq : w0.heap.size ≤ q) (k : Nat) (v : Int) :
    Rel2 w0 p g q n xs (wr.setCell ⟨q, k, none⟩ (.int .u32 v)) := by
  obtain ⟨cs, hb, _⟩ := hz.bk
  refine ⟨zs.set k v, by simpa using hl, hz.put k v, hc.kept (only_put wr q k _) (fun e => ?_) (fun e => ?_), own_then hw (only_put wr q k _) hq⟩
  · injection e with e; exact hc.ptr.unlike hb (by decide) e
  · injection e with e; exact hc.row.unlike hb (by decide) e

set_option maxHeartbeats 2000000 in
set_option maxRecDepth 100000 in
theorem walk (a0 : Option Addr) (cap0 : Nat) (xs : List Int) (kd ad o v : Int) (w : World) (g0 : Given .u32 w a0 xs) (u0 : ∀ n ∈ xs, (Lit.int .u32 n).wf = true) (hm : xs.length ≤ maxLen)
    (w0 : (Lit.int .i64 kd).wf = true) (w1 : (Lit.int .i64 ad).wf = true) (w2 : (Lit.int .u32 o).wf = true) (w3 : (Lit.int .u32 v).wf = true) :
    Calls Try.prog 4 #[.slice a0 xs.length cap0, .agg #[.int .i64 kd, .int .i64 ad, .int .u32 o, .int .u32 v]] w fun e w' => e = .returned (.bool true) ∧ Below w.heap.size w w' := by
  have hu : U32s xs := fun x hx => u32_bounds (u0 x hx)
  have hv := u32_bounds w3
  clear u0 w1 w2 w0 w3
  unfold maxLen at hm
  have hO := Bk.made w 32 #[.int .i64 kd, .int .i64 ad, .int .u32 o, .int .u32 v]
  have hW0 := grown_made w (.cells #[.int .i64 kd, .int .i64 ad, .int .u32 o, .int .u32 v] 32) none
  by_cases h40 : 40 < xs.length
  · go_enter Try.func4, Try.ntmps4
    go_wp2_with fail
    refine (cNew 40 (by omega) _).mono ?_
    rintro e w1 ⟨p, g, rfl, hc, hp, hg, hw1⟩
    go_wp2_with fail
    refine (lAwake _).mono ?_
    rintro e w2 ⟨rfl, hw2⟩
    go_wp2
    go_ret
    exact ⟨rfl, below_of_grown (grown_then hW0 (grown_then hw1 hw2 (.inl rfl)) (.inl rfl))⟩
  · go_enter Try.func4, Try.ntmps4
    go_wp2_with fail
    generalize w.alloc (.cells #[.int .i64 kd, .int .i64 ad, .int .u32 o, .int .u32 v] 32) = W0 at hO hW0 ⊢
    refine (cNew xs.length (by omega) W0).mono ?_
    rintro e w1 ⟨p, g, rfl, hc, hp, hg, hw1⟩
    go_wp2
    go_loopw [42] (fun i wr => ∃ k : Nat, k ≤ xs.length ∧ i = .int .i64 k ∧ Rel W0 p g (Part xs k) wr) (fun i _ => xs.length - (intOf i).toNat)
    case atStart => exact ⟨0, Nat.zero_le _, rfl, by rw [part_0]; exact hc, hw1⟩
    case round =>
      obtain ⟨k, hk, rfl, hr⟩ := hrel
      by_cases hlt : k < xs.length
      · obtain ⟨b, off, rfl, hcell⟩ := g0.at_ hlt (below_of_grown (grown_then hW0 hr.2 (.inl rfl)))
        have hx := hu.at_ k
        have hpl := part_len xs k hk
        have HPL := Lib.hid hpl
        clear hpl
        go_wp2_with fail
        refine (cStore hr.1 k (by rw [HPL.out]; exact hlt) (nth xs k) hx).mono ?_
        rintro e w2 ⟨rfl, hc2, hw2⟩
        rw [part_set xs k hlt] at hc2
        have hr2 : Rel W0 p g (Part xs (k + 1)) w2 := ⟨hc2, own_then hr.2 hw2 hg⟩
        go_wp2
        go_roundw
        case rel => exact ⟨k + 1, by omega, by go_num, hr2⟩
        case measure => simp [intOf]; omega
      · obtain rfl : k = xs.length := by omega
        obtain ⟨hc1, hw1'⟩ := hr
        rw [part_all] at hc1
        clear hlt hc hw1
        go_wp2_with fail
        refine (cWords hc1).mono ?_
        rintro e w2 ⟨q, rfl, hq, hc2, hq2, hw2⟩
        have hqs : W0.heap.size ≤ q := Nat.le_trans hw1'.size hq2
        have hw2' := grown_then hw1' hw2 (.inl rfl)
        clear hw2 hq2 hw1' hc1
        go_wp2
        go_loopw [56] (fun i wr => ∃ k : Nat, k ≤ xs.length ∧ i = .int .i64 k ∧ Rel2 W0 p g q xs.length xs wr) (fun i _ => xs.length - (intOf i).toNat)
        case atStart => exact ⟨0, Nat.zero_le _, rfl, xs, rfl, Wds.of_bk hq (by unfold maxLen; omega), hc2, hw2'⟩
        case round =>
          obtain ⟨j, hj, rfl, zs, hzl, hz, hc3, hw3⟩ := hrel
          by_cases hlt : j < xs.length
          · have hcell := hz.at_ (i := j) (by omega)
            have hfree := hz.free j
            have hst := fun x => rel2_step hzl hz hc3 hw3 hqs j x
            have HST := Lib.hid hst
            have HZL := Lib.hid hzl
            clear hst hzl
            go_wp2
            go_roundw
            case rel => exact ⟨j + 1, by omega, by go_num, HST.out _⟩
            case measure => simp [intOf]; omega
          · have HZL := Lib.hid hzl
            clear hzl
            have hO3 := hO.grown hw3 (by simp)
            have o0 := hO3.cell 0
            have o1 := hO3.cell 1
            have o2 := hO3.cell 2
            have o3 := hO3.cell 3
            simp only [List.getElem?_toArray, List.getElem?_cons_zero, List.getElem?_cons_succ] at o0 o1 o2 o3
            rcases (show kd < 1 ∨ 5 < kd ∨ (1 ≤ kd ∧ kd ≤ 5 ∧ ad < 0) ∨ (1 ≤ kd ∧ kd ≤ 5 ∧ (xs.length : Int) ≤ ad) ∨ (1 ≤ kd ∧ kd ≤ 5 ∧ 0 ≤ ad ∧ ad < xs.length) from by omega) with c | c | c | c | c
            · go_wp2
              go_loop [91] (fun i => ∃ k : Nat, k ≤ xs.length ∧ i = .int .i64 k) (fun i => xs.length - (intOf i).toNat)
              case atStart => exact ⟨0, Nat.zero_le _, rfl⟩
              case round =>
                obtain ⟨k, hk, rfl⟩ := hrel
                by_cases hlt : k < xs.length
                · obtain ⟨b, off, rfl, hcell⟩ := g0.at_ hlt (below_of_grown (grown_then hW0 hw3 (.inl rfl)))
                  by_cases hka : (k : Int) = ad
                  · have hb : ((k : Int) != ad) = false := by simp [hka]
                    have HKA := Lib.hid hka
                    clear hka
                    go_wp2
                    go_round
                    case rel => exact ⟨k + 1, by omega, by go_num⟩
                    case measure => simp [intOf]; omega
                  · have hb : ((k : Int) != ad) = true := by simp [hka]
                    clear hka
                    go_wp2_with fail
                    refine (cLoad hc3 k (by omega)).mono ?_
                    rintro e w9 ⟨rfl, rfl⟩
                    go_wp2
                    go_round
                    case rel => exact ⟨k + 1, by omega, by go_num⟩
                    case measure => simp [intOf]; omega
                · go_wp2_with fail
                  refine (lAwake _).mono ?_
                  rintro e w9 ⟨rfl, hw9⟩
                  go_wp2
                  go_ret
                  exact ⟨rfl, below_of_grown (grown_then hW0 (grown_then hw3 hw9 (.inl rfl)) (.inl rfl))⟩
            · go_wp2
              go_loop [91] (fun i => ∃ k : Nat, k ≤ xs.length ∧ i = .int .i64 k) (fun i => xs.length - (intOf i).toNat)
              case atStart => exact ⟨0, Nat.zero_le _, rfl⟩
              case round =>
                obtain ⟨k, hk, rfl⟩ := hrel
                by_cases hlt : k < xs.length
                · obtain ⟨b, off, rfl, hcell⟩ := g0.at_ hlt (below_of_grown (grown_then hW0 hw3 (.inl rfl)))
                  by_cases hka : (k : Int) = ad
                  · have hb : ((k : Int) != ad) = false := by simp [hka]
                    have HKA := Lib.hid hka
                    clear hka
                    go_wp2
                    go_round
                    case rel => exact ⟨k + 1, by omega, by go_num⟩
                    case measure => simp [intOf]; omega
                  · have hb : ((k : Int) != ad) = true := by simp [hka]
                    clear hka
                    go_wp2_with fail
                    refine (cLoad hc3 k (by omega)).mono ?_
                    rintro e w9 ⟨rfl, rfl⟩
                    go_wp2
                    go_round
                    case rel => exact ⟨k + 1, by omega, by go_num⟩
                    case measure => simp [intOf]; omega
                · go_wp2_with fail
                  refine (lAwake _).mono ?_
                  rintro e w9 ⟨rfl, hw9⟩
                  go_wp2
                  go_ret
                  exact ⟨rfl, below_of_grown (grown_then hW0 (grown_then hw3 hw9 (.inl rfl)) (.inl rfl))⟩
            · go_wp2
              go_loop [91] (fun i => ∃ k : Nat, k ≤ xs.length ∧ i = .int .i64 k) (fun i => xs.length - (intOf i).toNat)
              case atStart => exact ⟨0, Nat.zero_le _, rfl⟩
              case round =>
                obtain ⟨k, hk, rfl⟩ := hrel
                by_cases hlt : k < xs.length
                · obtain ⟨b, off, rfl, hcell⟩ := g0.at_ hlt (below_of_grown (grown_then hW0 hw3 (.inl rfl)))
                  by_cases hka : (k : Int) = ad
                  · have hb : ((k : Int) != ad) = false := by simp [hka]
                    have HKA := Lib.hid hka
                    clear hka
                    go_wp2
                    go_round
                    case rel => exact ⟨k + 1, by omega, by go_num⟩
                    case measure => simp [intOf]; omega
                  · have hb : ((k : Int) != ad) = true := by simp [hka]
                    clear hka
                    go_wp2_with fail
                    refine (cLoad hc3 k (by omega)).mono ?_
                    rintro e w9 ⟨rfl, rfl⟩
                    go_wp2
                    go_round
                    case rel => exact ⟨k + 1, by omega, by go_num⟩
                    case measure => simp [intOf]; omega
                · go_wp2_with fail
                  refine (lAwake _).mono ?_
                  rintro e w9 ⟨rfl, hw9⟩
                  go_wp2
                  go_ret
                  exact ⟨rfl, below_of_grown (grown_then hW0 (grown_then hw3 hw9 (.inl rfl)) (.inl rfl))⟩
            · go_wp2
              go_loop [91] (fun i => ∃ k : Nat, k ≤ xs.length ∧ i = .int .i64 k) (fun i => xs.length - (intOf i).toNat)
              case atStart => exact ⟨0, Nat.zero_le _, rfl⟩
              case round =>
                obtain ⟨k, hk, rfl⟩ := hrel
                by_cases hlt : k < xs.length
                · obtain ⟨b, off, rfl, hcell⟩ := g0.at_ hlt (below_of_grown (grown_then hW0 hw3 (.inl rfl)))
                  by_cases hka : (k : Int) = ad
                  · have hb : ((k : Int) != ad) = false := by simp [hka]
                    have HKA := Lib.hid hka
                    clear hka
                    go_wp2
                    go_round
                    case rel => exact ⟨k + 1, by omega, by go_num⟩
                    case measure => simp [intOf]; omega
                  · have hb : ((k : Int) != ad) = true := by simp [hka]
                    clear hka
                    go_wp2_with fail
                    refine (cLoad hc3 k (by omega)).mono ?_
                    rintro e w9 ⟨rfl, rfl⟩
                    go_wp2
                    go_round
                    case rel => exact ⟨k + 1, by omega, by go_num⟩
                    case measure => simp [intOf]; omega
                · go_wp2_with fail
                  refine (lAwake _).mono ?_
                  rintro e w9 ⟨rfl, hw9⟩
                  go_wp2
                  go_ret
                  exact ⟨rfl, below_of_grown (grown_then hW0 (grown_then hw3 hw9 (.inl rfl)) (.inl rfl))⟩
            · obtain ⟨a, rfl⟩ := Int.eq_ofNat_of_zero_le c.2.2.1
              have hal : a < xs.length := by omega
              have hT := lTold hc3 kd a o v ⟨c.1, c.2.1⟩ hal hv
              unfold opv at hT
              have HT := Lib.hid hT
              clear hT
              go_wp2_with fail
              refine HT.out.mono ?_
              rintro e wf ⟨rfl, hcF, hwf⟩
              have hwF := own_then hw3 hwf hg
              have hOF := hO.grown hwF (by simp)
              have of1 := hOF.cell 1
              simp only [List.getElem?_toArray, List.getElem?_cons_zero, List.getElem?_cons_succ] at of1
              clear HT hwf o0 o1 o2 o3 hO3
              go_wp2
              go_loop [91] (fun i => ∃ k : Nat, k ≤ xs.length ∧ i = .int .i64 k) (fun i => xs.length - (intOf i).toNat)
              case atStart => exact ⟨0, Nat.zero_le _, rfl⟩
              case round =>
                obtain ⟨k, hk, rfl⟩ := hrel
                by_cases hlt : k < xs.length
                · obtain ⟨b, off, rfl, hcell⟩ := g0.at_ hlt (below_of_grown (grown_then hW0 hwF (.inl rfl)))
                  by_cases hka : (k : Int) = (a : Int)
                  · have hb : ((k : Int) != (a : Int)) = false := by simp [hka]
                    have HKA := Lib.hid hka
                    clear hka
                    go_wp2
                    go_round
                    case rel => exact ⟨k + 1, by omega, by go_num⟩
                    case measure => simp [intOf]; omega
                  · have hb : ((k : Int) != (a : Int)) = true := by simp [hka]
                    clear hka
                    go_wp2_with fail
                    refine (cLoad hcF k (by rw [leaves_len]; exact hlt)).mono ?_
                    rintro e w9 ⟨rfl, rfl⟩
                    rw [leaves_other kd a o v xs k hal (fun e => by subst e; simp at hb)]
                    go_wp2
                    go_round
                    case rel => exact ⟨k + 1, by omega, by go_num⟩
                    case measure => simp [intOf]; omega
                · go_wp2_with fail
                  refine (lAwake _).mono ?_
                  rintro e w9 ⟨rfl, hw9⟩
                  go_wp2
                  go_ret
                  exact ⟨rfl, below_of_grown (grown_then hW0 (grown_then hwF hw9 (.inl rfl)) (.inl rfl))⟩

set_option maxRecDepth 100000 in
theorem lifted (os : Os) (started : os.Started) (H : Type) (enc : TypeId × Value → H) :
    ReturnsInHanded {} Try.checked os 4 .any (Rows.cellApartSpec.pre6 enc Try.prog Try.f4 Rows.cellApartRow.domain false) (Rows.cellApartSpec.post enc Try.prog Try.f4 false true false false) := by
  refine returnsInHanded_of_change (C := Try.checked) own started (by kernel_rfl) Try.func4
    (ChangeSpec.witness6 (enc := enc) (C := Try.checked) false ⟨#[], #[.slice none 0 0, .agg #[.int .i64 0, .int .i64 0, .int .u32 0, .int .u32 0]], []⟩ 8 (by kernel_rfl) (by kernel_rfl) (by kernel_rfl) (by kernel_rfl)) ?_
  intro W base args ds gs before hval0 hW hcnd _
  have hval : ∀ (j : Nat) t v, Try.f4.params[j]? = some t → args[j]? = some v → Value.okWide Try.prog W .any base t v := hval0
  have hW' := hW
  obtain ⟨p, q, hA0, hV, rfl, hfz, hnd⟩ := hW
  have hA : DataW.TrodAll enc Try.prog W 0 (fun _ => true) true Try.f4.params.toList args.toList ds p := hA0
  rw [Try.params4] at hA hval
  obtain ⟨v0, vs0, d0, ds0, p0, q0, hargs, rfl, rfl, h0, r0⟩ := trodAll_cons hA
  obtain ⟨v1, vs1, d1, ds1, p1, q1, rfl, rfl, rfl, h1, r1⟩ := trodAll_cons r0
  obtain ⟨rfl, rfl, rfl⟩ := trodAll_nil r1
  obtain rfl : args = #[v0, v1] := by cases args; simp_all
  obtain ⟨rfl, rfl⟩ := trodVars_none hV
  obtain ⟨a0, len0, cap0, rfl⟩ := okWide_slice Try.underlying29 (hval 0 29 v0 rfl rfl)
  have k0 := h0
  have lt0 : ∀ x ∈ p0, x.block < W.heap.size := by obtain ⟨m, hm⟩ := k0; exact DataW.trod_lt m _ _ _ hm
  obtain ⟨z0, g0, l0, u0, hb0⟩ : ∃ zs, Given .u32 W a0 zs ∧ len0 = zs.length ∧ (∀ n ∈ zs, (Lit.int .u32 n).wf = true) ∧ zs.length ≤ maxLen := by
    obtain ⟨fuel, hf⟩ := h0
    rcases open_ints Try.underlying29 Try.underlying30 (by kernel_rfl) hf with ⟨hcs, _⟩ | ⟨x, l, c, zs, hcs, _, hl, hm, hz, _, hcell, hwz⟩
    · simp [Value.cells] at hcs
      obtain ⟨rfl, rfl, rfl⟩ := hcs
      exact ⟨[], given_nil _ _ _, rfl, by simp, by simp⟩
    · simp [Value.cells] at hcs
      obtain ⟨rfl, rfl, rfl⟩ := hcs
      have hz' : zs.length = cap0 := by simpa using hz
      exact ⟨zs.take len0, given_of (by omega) hcell, by simp; omega, fun n hn => hwz n (List.mem_of_mem_take hn), by simp; omega⟩
  subst l0
  have k1 := h1
  have lt1 : ∀ x ∈ p1, x.block < W.heap.size := by obtain ⟨m, hm⟩ := k1; exact DataW.trod_lt m _ _ _ hm
  obtain ⟨c0, c1, c2, c3, y0, y1, y2, y3, m, rfl, _, _, hy0, hy1, hy2, hy3⟩ := Joins.open_agg4 Try.underlying32 (by kernel_rfl) (by kernel_rfl) (hval 1 32 v1 rfl rfl) h1
  obtain ⟨x0, e0, _, w0⟩ := DataW.trod_int Try.underlying3 hy0
  obtain ⟨x1, e1, _, w1⟩ := DataW.trod_int Try.underlying3 hy1
  obtain ⟨x2, e2, _, w2⟩ := DataW.trod_int Try.underlying30 hy2
  obtain ⟨x3, e3, _, w3⟩ := DataW.trod_int Try.underlying30 hy3
  simp at e0 e1 e2 e3
  subst e0 e1 e2 e3
  clear hA0 hval0
  refine (walk a0 cap0 z0 x0 x1 x2 x3 W g0 u0 hb0 w0 w1 w2 w3).mono fun e W' ⟨he, bel⟩ => ?_
  subst he
  exact ⟨_, rfl, _, _, _, [], _, [], hW', trodAll_mk1 (shut_bool Try.underlying4 _), (trodAll_cons_mk (Below.trod laidOut (by kernel_rfl) (of_decide_eq_true (by kernel_rfl)) k0 bel lt0) (trodAll_cons_mk (Below.trod laidOut (by kernel_rfl) (of_decide_eq_true (by kernel_rfl)) k1 bel lt1) trodAll_mk0)), rfl, bel.frame _, fun h => by cases h⟩

theorem over : Rows.cellApartRow.holds Try.pinned (OpenSpec.ofChange Rows.cellApartSpec) :=
  OpenClaim.holds_of_wide 4 Try.f4 rfl rfl rfl rfl rfl rfl rfl ⟨rfl, rfl, rfl, rfl, rfl⟩ rfl rfl rfl rfl rfl (by kernel_rfl) Try.func4 (by kernel_rfl)
    (of_decide_eq_true (by kernel_rfl)) (by unfold Func.isWrapper; first | (rw [if_pos (by decide +kernel)]; kernel_rfl) | (rw [if_neg (by decide +kernel)]; exact ⟨rfl, rfl⟩))
    (fun os started H enc _ => lifted os started H enc)

/-- The statement. -/
theorem proved : Rows.CellApartSaid := over
#print axioms proved
end Go.Proofs.Ytplfcfijopdmfaa.cellApart
