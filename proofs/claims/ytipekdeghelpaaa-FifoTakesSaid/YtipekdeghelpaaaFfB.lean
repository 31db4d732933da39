/- Layer 13's program: slices.Clone, IndexFunc and DeleteFunc, at a queue and the closure of Take. -/
import Derived.Test.YtipekdeghelpaaaFfA
import Derived.Test.YtipekdeghelpaaaCpy
import Derived.Lib.SliceRun
import Derived.Laws.Cover3
import Derived.Deep.DeepCutAuto
import Derived.Deep.CutBlock
namespace Go.Proofs.Ytipekdeghelpaaa
open Go.ChangeShapes Go.WideShapes Go.ChangeAt Go.RowKit
set_option linter.unusedVariables false

theorem fDel {w : World} {b : Nat} {t : Int} (c : w.cell? ⟨b, 1, none⟩ = some (.int .i64 t)) (u : Int) :
    Calls Try.prog 24 #[.int .i64 u, .pointer (some ⟨b, 0, none⟩)] w fun e w' => e = .returned (.bool (u == t)) ∧ w' = w := by
  go_enter Try.func24, Try.ntmps24
  go_wp2
  go_ret
  exact ⟨rfl, rfl⟩

theorem fIndexFunc {w : World} {g b cap : Nat} {q : List Int} {t : Int} (h : Its w g cap q) (c : w.cell? ⟨b, 1, none⟩ = some (.int .i64 t)) :
    Calls Try.prog 29 #[.slice (some ⟨g, 0, none⟩) q.length cap, .func (.func 24) #[] #[.pointer (some ⟨b, 0, none⟩)]] w fun e w' => e = .returned (.int .i64 (idxI q t)) ∧ w' = w := by
  have HC := Lib.hid (fun u => fDel c u)
  have HA := Lib.hid (fun k (hk : k < q.length) => h.at_ hk)
  have HN : Hid ((∀ j, j < q.length → nth q j ≠ t) → idxI q t = -1) := Lib.hid idxI_none
  have HS : Hid (∀ k, k < q.length → nth q k = t → (∀ j, j < k → nth q j ≠ t) → idxI q t = (k : Int)) := Lib.hid fun k h1 h2 h3 => idxI_some h1 h2 h3
  have hn := Nat.le_trans h.caps.1 h.caps.2
  simp only [maxLen] at hn
  generalize idxI q t = res at *
  clear h c
  go_enter Try.func29, Try.ntmps29
  go_wp2
  go_loopw [8] (fun x wr => ∃ k : Nat, x = .int .i64 k ∧ k ≤ q.length ∧ wr = w ∧ Hid (∀ j, j < k → nth q j ≠ t)) (fun x _ => q.length - (intOf x).toNat)
  case atStart => exact ⟨0, rfl, Nat.zero_le _, rfl, Lib.hid (fun j h => by omega)⟩
  case round =>
    obtain ⟨k, rfl, hk, rfl, HB⟩ := hrel
    by_cases hlt : k < q.length
    · have hki : (k : Int) < q.length := by omega
      have ca := HA.out k hlt
      have HR := Lib.hid (HS.out k hlt)
      have HB2 : Hid (nth q k ≠ t → ∀ j, j < k + 1 → nth q j ≠ t) := Lib.hid (fun e j h => by
        by_cases hj : j = k
        · subst hj; exact e
        · exact HB.out j (by omega))
      generalize nth q k = y at *
      have HCy := Lib.hid (HC.out y)
      cases hy : (y == t) with
      | true =>
        have e0 : y = t := by simpa using hy
        rw [hy] at HCy
        have HR2 := Lib.hid (HR.out e0 HB.out)
        clear HB HB2 HR HS HN hy e0
        go_wp2_with fail
        refine HCy.out.mono ?_
        rintro e w' ⟨rfl, rfl⟩
        go_wp2
        go_ret
        exact ⟨by rw [HR2.out]; rfl, rfl⟩
      | false =>
        have e0 : y ≠ t := by simpa using hy
        rw [hy] at HCy
        have HB3 := Lib.hid (HB2.out e0)
        clear HB HB2 HR hy e0
        go_wp2_with fail
        refine HCy.out.mono ?_
        rintro e w' ⟨rfl, rfl⟩
        go_wp2
        go_roundw
        case rel => exact ⟨k + 1, by go_num, by omega, trivial, HB3⟩
        case measure => simp [intOf]; omega
    · obtain rfl : k = q.length := by omega
      have HR := Lib.hid (HN.out HB.out)
      clear HB HS HN
      go_wp2
      go_ret
      exact ⟨by rw [HR.out]; rfl, rfl⟩

/-- What stays of the first j. -/
def kp (q : List Int) (t : Int) (j : Nat) : List Int := (q.take j).filter (fun x => x != t)
theorem kp_yes {q : List Int} {t : Int} {j : Nat} (hj : j < q.length) (h : nth q j ≠ t) : kp q t (j + 1) = kp q t j ++ [nth q j] := by
  unfold kp
  rw [take_at q j hj, List.filter_append, ← nth_lt hj]
  congr 1
  simp [h]
theorem kp_no {q : List Int} {t : Int} {j : Nat} (hj : j < q.length) (h : nth q j = t) : kp q t (j + 1) = kp q t j := by
  unfold kp
  rw [take_at q j hj, List.filter_append, ← nth_lt hj, h]
  simp
theorem kp_len (q : List Int) (t : Int) (j : Nat) : (kp q t j).length ≤ j := by
  unfold kp
  exact Nat.le_trans (List.length_filter_le _ _) (by rw [List.length_take]; omega)
theorem kp_all (q : List Int) (t : Int) : kp q t q.length = q.filter (fun x => x != t) := by unfold kp; rw [List.take_length]
theorem kp_first {q : List Int} {t : Int} {k : Nat} (hk : k < q.length) (h1 : nth q k = t) (h : ∀ j, j < k → nth q j ≠ t) : kp q t (k + 1) = q.take k := by
  rw [kp_no hk h1]
  unfold kp
  rw [List.filter_eq_self]
  intro x hx
  obtain ⟨j, hj, rfl⟩ := List.getElem_of_mem hx
  simp only [List.length_take] at hj
  rw [List.getElem_take, ← nth_lt (by omega)]
  simpa using h j (by omega)
/-- What the row holds, j of its elements looked at. -/
def Dk (q : List Int) (t : Int) (j : Nat) (dk : List Int) : Prop := dk.length = q.length ∧ dk.take (kp q t j).length = kp q t j ∧ (∀ m, j ≤ m → nth dk m = nth q m) ∧ (kp q t j).length < j
theorem Dk.keep {q dk : List Int} {t : Int} {j : Nat} (h : Dk q t j dk) (hj : j < q.length) (hy : nth q j ≠ t) : Dk q t (j + 1) (dk.set (kp q t j).length (nth q j)) ∧ (kp q t (j + 1)).length = (kp q t j).length + 1 := by
  obtain ⟨h1, h2, h3, h4⟩ := h
  have e : (kp q t (j + 1)).length = (kp q t j).length + 1 := by rw [kp_yes hj hy]; simp
  refine ⟨⟨by rw [List.length_set]; exact h1, ?_, fun m hm => ?_, by omega⟩, e⟩
  · rw [e, take_at _ _ (by rw [List.length_set]; omega), kp_yes hj hy]
    rw [List.take_set_of_le (Nat.le_refl _), h2]
    congr 1
    simp
  · rw [nth_set (by omega), if_neg (by omega)]
    exact h3 m (by omega)
theorem Dk.drop {q dk : List Int} {t : Int} {j : Nat} (h : Dk q t j dk) (hj : j < q.length) (hy : nth q j = t) : Dk q t (j + 1) dk ∧ (kp q t (j + 1)).length = (kp q t j).length := by
  obtain ⟨h1, h2, h3, h4⟩ := h
  have e := kp_no (t := t) hj hy
  refine ⟨⟨h1, by rw [e]; exact h2, fun m hm => h3 m (by omega), by rw [e]; omega⟩, by rw [e]⟩
theorem Dk.start {q : List Int} {t : Int} {k : Nat} (hk : k < q.length) (h1 : nth q k = t) (h : ∀ j, j < k → nth q j ≠ t) : Dk q t (k + 1) q ∧ (kp q t (k + 1)).length = k := by
  have e := kp_first hk h1 h
  have el : (q.take k).length = k := by rw [List.length_take]; omega
  refine ⟨⟨rfl, by rw [e, el], fun _ _ => rfl, by rw [e, el]; omega⟩, by rw [e, el]⟩

/-- Cells of a row become 0. -/
theorem its_zeros {g cap : Nat} : ∀ (m o : Nat) (w : World) (dk : List Int), Its w g cap dk → o + m ≤ dk.length → ∃ dk', Its (w.setCells g o (List.replicate m (.int .i64 0))) g cap dk' ∧ dk'.length = dk.length ∧ dk'.take o = dk.take o ∧ Within w (w.setCells g o (List.replicate m (.int .i64 0))) (fun x => x = g)
  | 0, o, w, dk, h, _ => ⟨dk, h, rfl, rfl, Within.refl _ _⟩
  | m + 1, o, w, dk, h, hm => by
    obtain ⟨dk', h1, h2, h3, h4⟩ := its_zeros m (o + 1) (w.setCell ⟨g, o, none⟩ (.int .i64 0)) (dk.set o 0) (h.put o 0) (by rw [List.length_set]; omega)
    refine ⟨dk', h1, by rw [h2, List.length_set], ?_, ?_⟩
    · have := congrArg (List.take o) h3
      simp only [List.take_take] at this
      rw [show min o (o + 1) = o by omega] at this
      rw [this, List.take_set_of_le (Nat.le_refl _)]
    · exact ((Within.refl w (fun x => x = g)).put g o _ (.inl rfl)).then_ h4 (fun i hi => .inl hi)
theorem its_cut {w : World} {g cap i : Nat} {dk xs : List Int} (h : Its w g cap dk) (hx : dk.take i = xs) (hi : xs.length = i) (hd : i ≤ dk.length) : Its w g cap xs := by
  rcases h.2 with ⟨h', _⟩ | ⟨g', cap', cur, h', hb, hg, hnc, hcm, hcs, htake⟩
  · simp at h'
  · simp only [Value.slice.injEq, Option.some.injEq, Addr.mk.injEq, and_true, true_and] at h'
    obtain ⟨rfl, rfl⟩ := h'
    refine ⟨by simp, .inr ⟨g, cap, cur, rfl, hb, hg, by omega, hcm, hcs, ?_⟩⟩
    rw [hi, ← hx]
    have := congrArg (List.take i) htake
    rw [List.take_take, ← List.map_take] at this
    rw [← this]
    congr 1
    omega

set_option maxHeartbeats 1000000 in
theorem fDelete {w : World} {g b cap : Nat} {q : List Int} {t : Int} (h : Its w g cap q) (hm : t ∈ q) (c : w.cell? ⟨b, 1, none⟩ = some (.int .i64 t)) (hbg : b ≠ g) :
    Calls Try.prog 23 #[.slice (some ⟨g, 0, none⟩) q.length cap, .func (.func 24) #[] #[.pointer (some ⟨b, 0, none⟩)]] w
      fun e w' => e = .returned (.slice (some ⟨g, 0, none⟩) (q.filter (fun x => x != t)).length cap) ∧ Its w' g cap (q.filter (fun x => x != t)) ∧ Within w w' (fun x => x = g) := by
  obtain ⟨k0, hk0, hk1, hk2⟩ : ∃ k, k < q.length ∧ nth q k = t ∧ ∀ j, j < k → nth q j ≠ t := by
    cases hf : q.findIdx? (fun x => decide (x = t)) with
    | none =>
      rw [List.findIdx?_eq_none_iff] at hf
      have := hf t hm
      simp at this
    | some k =>
      rw [List.findIdx?_eq_some_iff_getElem] at hf
      obtain ⟨a1, a2, a3⟩ := hf
      refine ⟨k, a1, by rw [nth_lt a1]; simpa using a2, fun j hj => ?_⟩
      rw [nth_lt (by omega)]
      simpa using a3 j hj
  have HI := Lib.hid (fIndexFunc h c)
  rw [idxI_some hk0 hk1 hk2] at HI
  have HC : Hid (∀ W, Within w W (fun x => x = g) → ∀ u, Calls Try.prog 24 #[.int .i64 u, .pointer (some ⟨b, 0, none⟩)] W fun e w' => e = .returned (.bool (u == t)) ∧ w' = W) := Lib.hid (fun W hW u => fDel (by
    have hlt := World.block_lt_of_cell? w _ c
    have hbk := hW.block b hlt hbg
    unfold World.cell? at c ⊢
    simp only at c ⊢
    rw [hbk]; exact c) u)
  obtain ⟨hd0, hl0⟩ := Dk.start hk0 hk1 hk2
  have HST := Lib.hid (show Its w g cap q ∧ Dk q t (k0 + 1) q ∧ (kp q t (k0 + 1)).length = k0 from ⟨h, hd0, hl0⟩)
  have hne : ((k0 : Int) == -1) = false := beq_eq_false_iff_ne.2 (by omega)
  have HEN : Hid (kp q t q.length = q.filter (fun x => x != t)) := Lib.hid (kp_all q t)
  have hn := Nat.le_trans h.caps.1 h.caps.2
  have hcap := h.caps.1
  simp only [maxLen] at hn
  generalize q.filter (fun x => x != t) = r at *
  clear h hm c hk1 hk2 hd0 hl0
  go_enter Try.func23, Try.ntmps23
  go_wp2_with fail
  refine HI.out.mono ?_
  rintro e w' ⟨rfl, rfl⟩
  clear HI
  go_wp2
  go_loopw [5, 6] (fun x y wr => ∃ (j : Nat) (dk : List Int), x = .int .i64 (kp q t j).length ∧ y = .int .i64 j ∧ j ≤ q.length ∧ Hid (Its wr g cap dk) ∧ Hid (Dk q t j dk) ∧ Within w' wr (fun x => x = g)) (fun _ y _ => q.length - (intOf y).toNat)
  case atStart => exact ⟨k0 + 1, q, by rw [HST.out.2.2], by go_num, by omega, Lib.hid HST.out.1, Lib.hid HST.out.2.1, Within.refl _ _⟩
  case round =>
    obtain ⟨j, dk, rfl, rfl, hj, HD, HK, hW⟩ := hrel
    have hi4 := HK.out.2.2.2
    have hdl := HK.out.1
    have HIL : Hid ((kp q t j).length = (kp q t j).length) := Lib.hid rfl
    by_cases hlt : j < q.length
    · have hji : (j : Int) < q.length := by omega
      have cj := HD.out.at_ (i := j) (by omega)
      rw [HK.out.2.2.1 j (Nat.le_refl _)] at cj
      have ci := HD.out.at_ (i := (kp q t j).length) (by omega)
      have fi := HD.out.free (kp q t j).length
      have HKe := Lib.hid (fun e => HK.out.keep hlt e)
      have HDr := Lib.hid (fun e => HK.out.drop hlt e)
      have HPut := Lib.hid (fun y => HD.out.put (kp q t j).length y)
      have HCy := Lib.hid (HC.out wr hW (nth q j))
      generalize nth q j = y at *
      generalize nth dk (kp q t j).length = z at ci
      generalize (kp q t j).length = i at *
      have HI2 := Lib.hid HD.out
      clear HD HK hdl
      cases hy : (y == t) with
      | true =>
        have e0 : y = t := by simpa using hy
        rw [hy] at HCy
        obtain ⟨d1, d2⟩ := HDr.out e0
        have HD2 := Lib.hid d1
        have hd2 : (i : Int) = (kp q t (j + 1)).length := by omega
        have HL2 := Lib.hid hd2
        clear d1 d2 HKe HDr HPut hy e0 hd2 HC HIL
        go_wp2_with fail
        refine HCy.out.mono ?_
        rintro e w'' ⟨rfl, rfl⟩
        go_wp2
        go_roundw
        case rel => exact ⟨j + 1, dk, by rw [← HL2.out], by go_num, by omega, HI2, HD2, hW⟩
        case measure => simp [intOf]; omega
      | false =>
        have e0 : y ≠ t := by simpa using hy
        rw [hy] at HCy
        obtain ⟨d1, d2⟩ := HKe.out e0
        have HD2 := Lib.hid d1
        have hd2 : (i : Int) + 1 = (kp q t (j + 1)).length := by omega
        have HL2 := Lib.hid hd2
        have HI3 := Lib.hid (HPut.out y)
        have HW2 := Lib.hid (hW.put g i (.int .i64 y) (.inl rfl))
        clear d1 d2 HKe HDr HPut hy e0 hd2 HC HIL HI2
        go_wp2_with fail
        refine HCy.out.mono ?_
        rintro e w'' ⟨rfl, rfl⟩
        go_wp2
        go_roundw
        case rel => exact ⟨j + 1, dk.set i y, by rw [← HL2.out], by go_num, by omega, HI3, HD2, HW2.out⟩
        case measure => simp [intOf]; omega
    · obtain rfl : j = q.length := by omega
      have hIt := HD.out
      have hK := HK.out
      obtain ⟨dk', z1, z2, z3, z4⟩ := its_zeros (q.length - (kp q t q.length).length) (kp q t q.length).length wr dk hIt (by omega)
      have hcl : ∀ ty, (Builtin.clear_ #[39] ty #[.slice (some ⟨g, (kp q t q.length).length, none⟩) (q.length - (kp q t q.length).length) (cap - (kp q t q.length).length)]).run Try.prog wr = .ok (.tuple #[]) (wr.setCells g (kp q t q.length).length (List.replicate (q.length - (kp q t q.length).length) (.int .i64 0))) :=
        fun ty => Lib.run_clear_slice wr _ _ ty _ Try.underlying39 zeroInt rfl rfl g _ _ _ (by omega) (fun j hj => by rw [hIt.at_ (by omega)]; rfl) (fun j hj => hIt.free _)
      have HEND : Hid (Its (wr.setCells g (kp q t q.length).length (List.replicate (q.length - (kp q t q.length).length) (.int .i64 0))) g cap (kp q t q.length) ∧ Within w' (wr.setCells g (kp q t q.length).length (List.replicate (q.length - (kp q t q.length).length) (.int .i64 0))) (fun x => x = g)) := Lib.hid ⟨its_cut z1 (z3.trans hK.2.1) rfl (by omega), hW.then_ z4 (fun i hi => .inl hi)⟩
      rw [HEN.out] at *
      generalize wr.setCells g r.length (List.replicate (q.length - r.length) (.int .i64 0)) = wz at *
      clear HD HK hIt hK z1 z2 z3 z4 hW hdl HC HIL HST
      go_wp2
      go_ret
      exact ⟨rfl, HEND.out.1, HEND.out.2⟩

/-- A copy: of the call's own, and new. -/
theorem fClone {w : World} {v : Value} {q : List Int} (h : Lst .i64 3 w v q) (hq : q.length ≤ 100000) :
    Calls Try.prog 25 #[v] w fun e w' => ∃ v', e = .returned v' ∧ Lst .i64 3 w' v' q ∧ (∀ g, v'.ownBlock = some g → w.heap.size ≤ g) ∧ Below w.heap.size w w' := by
  rcases h.2 with ⟨rfl, h0⟩ | ⟨g, cap, cur, rfl, hb, hg, hnc, hcm, hcs, htake⟩
  · obtain rfl := List.eq_nil_of_length_eq_zero h0
    have hnil : ∀ W, (binOp .eql 39 (.slice none 0 0) (.slice none 0 0)).run Try.prog W = .ok (.bool true) W := fun W => by simp [binOp, run_equal_slice_nil W 39 3 _ _ _ Try.underlying39, Result.andThen]
    go_enter Try.func25, Try.ntmps25
    go_wp2
    go_ret
    exact ⟨_, rfl, Lst.nil _ _ _, fun g e => (by cases e), Below.refl _ _⟩
  · have hnil : ∀ W, (binOp .eql 39 (.slice (some ⟨g, 0, none⟩) q.length cap) (.slice none 0 0)).run Try.prog W = .ok (.bool false) W := fun W => by simp [binOp, run_equal_slice_nil W 39 3 _ _ _ Try.underlying39, Result.andThen]
    have hB : Hid (Bk (w.alloc (.cells #[] 3)) w.heap.size 3 #[]) := Lib.hid (Bk.made w _ _)
    have HO : Hid ((w.alloc (.cells #[] 3)).ownsRow w.heap.size 3 1 (.slice (some ⟨w.heap.size, 0, none⟩) 0 0) 0 []) := Lib.hid ⟨rfl, .inr ⟨w.heap.size, 0, #[], rfl, Nat.le_refl _, hB.out, Nat.le_refl _, by simp, rfl, rfl⟩⟩
    have HN : Hid (∀ (j : Nat) (u : Value), (q.map (Value.int .i64))[j]? = some u → (w.alloc (.cells #[] 3)).cell? ((⟨g, 0, none⟩ : Addr).add j) = some u) := Lib.hid (Its.news (h.alloc _))
    have HL : Hid (Lst .i64 3 w (.slice (some ⟨g, 0, none⟩) q.length cap) q) := Lib.hid h
    obtain ⟨i0, hi0, hz0, hz1, hz2⟩ := info_parts intinfo
    have HI := Lib.hid (And.intro hi0 (And.intro hz0 (And.intro hz1 hz2)))
    have HQ := Lib.hid hq
    clear h hb hg hcs htake hi0 hz0 hz1 hz2 hB hnc hcm hq
    go_enter Try.func25, Try.ntmps25
    go_wp2_with (at_builtin; refine wpList_append_own_at _ rfl _ _ 39 rfl w.heap.size 3 i0 _ 1 8 Try.underlying39 HI.out.1 HI.out.2.1 HI.out.2.2.1 HI.out.2.2.2 rfl (by omega) _ 0 [] rfl HO.out ⟨g, 0, none⟩ q.length cap (q.map (Value.int .i64)) rfl (by simp) HN.out (ints_oneCell .i64 q) (by have := HQ.out; simp only [maxLen]; omega) (by have := HQ.out; omega) (by simp) ?_; intro v' w' hown hgr _ hloc)
    go_ret
    have hb2 : Below w.heap.size w w' := Below.grown ((Below.refl _ _).alloc (Nat.le_refl _) _) hgr (by simp) (fun j hj => by cases hj; exact Nat.le_refl _)
    simp only [Nat.zero_add, List.nil_append] at hown
    refine ⟨v', rfl, ⟨hown.1, ?_⟩, fun j hj => ?_, hb2⟩
    · rcases hown.2 with e | ⟨g', cap', cur', e, _, r⟩
      · exact .inl e
      · exact .inr ⟨g', cap', cur', e, Nat.zero_le _, r⟩
    · rcases hloc with e | e
      · rw [e] at hj; cases hj; exact Nat.le_refl _
      · rw [e] at hj; cases hj; simp
end Go.Proofs.Ytipekdeghelpaaa
