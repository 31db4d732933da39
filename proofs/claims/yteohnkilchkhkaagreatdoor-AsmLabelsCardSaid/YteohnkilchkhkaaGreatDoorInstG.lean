/- inst.Parse. -/
import Derived.Test.YteohnkilchkhkaaGreatDoorInstF
import Derived.Lib.AtoiAllCases
namespace Go.Proofs.YteohnkilchkhkaaGreatDoor
open Go.ChangeShapes Go.WideShapes Go.ChangeAt Go.RowKit
set_option linter.unusedVariables false

theorem splitK_pos (sep : List UInt8) : ∀ (k : Nat) (s : List UInt8), 0 < (Lib.splitK sep 0 k s).length
  | 0, _ => by simp [Lib.splitK]
  | k + 1, s => by unfold Lib.splitK; split <;> simp
theorem splitK_le (sep : List UInt8) : ∀ (k : Nat) (s : List UInt8), ∀ l ∈ Lib.splitK sep 0 k s, l.length ≤ s.length
  | 0, s, l, h => by simp [Lib.splitK] at h; subst h; exact Nat.le_refl _
  | k + 1, s, l, h => by
    unfold Lib.splitK at h
    split at h
    · simp at h; subst h; exact Nat.le_refl _
    · rcases List.mem_cons.1 h with rfl | h
      · simp; omega
      · have := splitK_le sep k _ l h
        simp at this
        omega

theorem valL_in (l : List UInt8) : -9223372036854775808 ≤ valL l ∧ valL l ≤ 9223372036854775807 := by
  unfold valL
  split
  · omega
  split
  · omega
  split
  · rename_i v h; exact Lib.atoiAll_bounds h
  · omega
theorem valAt_in (ws : List (List UInt8)) (n : Nat) : -9223372036854775808 ≤ valAt ws n ∧ valAt ws n ≤ 9223372036854775807 := by
  unfold valAt
  split
  · exact valL_in _
  · omega
theorem set_wf (i : Ins) (h : i.Wf) (c v : Int) (h0 : -9223372036854775808 ≤ v) (h1 : v ≤ 9223372036854775807) : (setI i c v).Wf := by
  obtain ⟨a1, a2, a3, a4, a5, a6, a7, a8, a9, a10, a11, a12, a13, a14, a15, a16⟩ := h
  have hm0 : 0 ≤ v % 4294967296 := by omega
  have hm1 : v % 4294967296 < 4294967296 := by omega
  unfold setI
  by_cases c1 : c = 68
  · rw [if_pos c1]; constructor <;> assumption
  rw [if_neg c1]
  by_cases c2 : c = 83
  · rw [if_pos c2]; constructor <;> assumption
  rw [if_neg c2]
  by_cases c3 : c = 84
  · rw [if_pos c3]; constructor <;> assumption
  rw [if_neg c3]
  by_cases c4 : c = 85
  · rw [if_pos c4]; constructor <;> assumption
  rw [if_neg c4]
  by_cases c5 : c = 65
  · rw [if_pos c5]; constructor <;> assumption
  rw [if_neg c5]
  by_cases c6 : c = 75
  · rw [if_pos c6]; constructor <;> assumption
  rw [if_neg c6]
  by_cases c7 : c = 80
  · rw [if_pos c7]; constructor <;> assumption
  rw [if_neg c7]; constructor <;> assumption
theorem fill_wf (ws : List (List UInt8)) : ∀ (l : List UInt8) (m : Nat) (i : Ins), i.Wf → (fillI ws l m i).Wf
  | [], _, _, h => h
  | c :: l, m, i, h => by
    rw [fillI]
    exact fill_wf ws l _ _ (set_wf i h _ _ (valAt_in ws _).1 (valAt_in ws _).2)
theorem opFrom_in (s : List UInt8) : ∀ (n : Nat) (k : Int), 0 ≤ k → 0 ≤ opFrom s n k ∧ opFrom s n k ≤ k + n
  | 0, k, h => by unfold opFrom; omega
  | n + 1, k, h => by
    unfold opFrom
    split
    · omega
    · have := opFrom_in s n (k + 1) (by omega)
      omega
theorem draft_wf (ws : List (List UInt8)) : (draftI ws).Wf := by
  unfold draftI lastI
  have h1 := opFrom_in (ws.getD 0 []) 23 1 (by omega)
  have h2 : opN (ws.getD 0 []) = opFrom (ws.getD 0 []) 23 1 := rfl
  generalize opN (ws.getD 0 []) = op at *
  have hw : (fillI ws (hsL op) 0 { Ins.zero with op := op }).Wf := fill_wf ws _ _ _ (by unfold Ins.zero; constructor <;> simp <;> omega)
  generalize fillI ws (hsL op) 0 { Ins.zero with op := op } = i at *
  split
  · obtain ⟨a1, a2, a3, a4, a5, a6, a7, a8, a9, a10, a11, a12, a13, a14, a15, a16⟩ := hw
    have hv := valAt_in ws 7
    obtain ⟨v0, v1⟩ := hv
    constructor <;> assumption
  · exact hw

/-- What Parse answers. -/
def parsedI (s : List UInt8) : Ins := draftI (splitL s)
def parseB (s : List UInt8) : Bool := rightB (parsedI s) 1073741824 && decide (textL (parsedI s) = s)
def parseV (s : List UInt8) : Value := if parseB s = true then .tuple #[iv (parsedI s), .int .i64 0] else .tuple #[iv Ins.zero, .int .i64 8]

set_option maxHeartbeats 1000000 in
theorem cParse (s : List UInt8) (hl : s.length < 4294967281) (w : World) (L : Lb w) :
    Calls Tryz.prog 61 #[bs s] w fun e w' => e = .returned (parseV s) ∧ Below w.heap.size w w' := by
  have HS := Lib.hid (fun W LW => lSplit s hl W LW)
  have h0 : 0 < (splitL s).length := splitK_pos _ _ _
  have hw : ∀ l ∈ splitL s, l.length < 4294967281 := fun l h => Nat.lt_of_le_of_lt (splitK_le _ _ _ l h) hl
  have HD := Lib.hid (fun v W hS LW => cDraft v (splitL s) h0 hw W hS LW)
  have HT := Lib.hid (fun W LW => cText (parsedI s) (draft_wf _) W LW)
  have E : parseV s = if (rightB (parsedI s) 1073741824 && decide (textL (parsedI s) = s)) = true then .tuple #[iv (parsedI s), .int .i64 0] else .tuple #[iv Ins.zero, .int .i64 8] := rfl
  have HD2 := Lib.hid (show ∀ v W, Strs W v (splitL s) → Lb W → Calls Tryz.prog 74 #[v] W fun e w' => e = .returned (iv (parsedI s)) ∧ Below W.heap.size W w' from HD.out)
  clear HD h0 hw
  generalize parseV s = res at *
  generalize parsedI s = i at *
  have HE := Lib.hid E
  clear E
  obtain ⟨op, d, s', t, u, a, k, pl⟩ := i
  unfold bs
  go_enter Tryz.func61, Tryz.ntmps61
  go_wp2_with fail
  have b1 : Below w.heap.size w (w.alloc (.cells #[.int .i64 0, .int .i64 0, .int .i64 0, .int .i64 0, .int .i64 0, .int .i64 0, .int .u32 0, .int .i64 0] 47)) := (Below.refl _ _).alloc (Nat.le_refl _) _
  have m1 : Ib (w.alloc (.cells #[.int .i64 0, .int .i64 0, .int .i64 0, .int .i64 0, .int .i64 0, .int .i64 0, .int .u32 0, .int .i64 0] 47)) w.heap.size Ins.zero := Bk.made _ _ _
  generalize w.alloc (.cells #[.int .i64 0, .int .i64 0, .int .i64 0, .int .i64 0, .int .i64 0, .int .i64 0, .int .u32 0, .int .i64 0] 47) = x1 at *
  refine (HS.out x1 (L.below b1)).mono ?_
  rintro e x2 ⟨v, rfl, hS, b2⟩
  replace m1 := m1.below b2
  replace b2 := b1.trans (b2.mono b1.size)
  clear b1
  go_wp2_with fail
  refine (HD2.out v _ hS (L.below b2)).mono ?_
  rintro e x3 ⟨rfl, b3⟩
  replace m1 := m1.below b3
  replace b3 := b2.trans (b3.mono b2.size)
  clear b2 hS x2 x1
  unfold iv
  go_wp2_with fail
  have b4 : Below w.heap.size w (x3.alloc (.cells #[.int .i64 op, .int .i64 d, .int .i64 s', .int .i64 t, .int .i64 u, .int .i64 a, .int .u32 k, .int .i64 pl] 47)) := b3.alloc b3.size _
  have m2 := Ib.made x3 op d s' t u a k pl
  have m3 : Ib (x3.alloc (.cells #[.int .i64 op, .int .i64 d, .int .i64 s', .int .i64 t, .int .i64 u, .int .i64 a, .int .u32 k, .int .i64 pl] 47)) w.heap.size Ins.zero := Bk.alloc m1 _
  have hne : w.heap.size ≠ x3.heap.size := Nat.ne_of_lt (Bk.lt m1)
  clear m1 b3
  generalize x3.heap.size = g at *
  generalize x3.alloc (.cells #[.int .i64 op, .int .i64 d, .int .i64 s', .int .i64 t, .int .i64 u, .int .i64 a, .int .u32 k, .int .i64 pl] 47) = x4 at *
  refine (HT.out x4 (L.below b4)).mono ?_
  rintro e y ⟨rfl, hy⟩
  replace m2 := m2.below hy
  replace m3 := m3.below hy
  replace b4 := b4.trans (hy.mono b4.size)
  clear hy x4 HT HD2 HS
  obtain ⟨c0, c1, c2, c3, c4, c5, c6, c7⟩ := m2.cells
  obtain ⟨r0, r1, r2, r3, r4, r5, r6, r7⟩ := m3.cells
  have hfR := Bk.free m3
  simp only at c0 c1 c2 c3 c4 c5 c6 c7
  unfold Ins.zero at r0 r1 r2 r3 r4 r5 r6 r7
  simp only at r0 r1 r2 r3 r4 r5 r6 r7
  unfold textV
  cases hr : rightB ⟨op, d, s', t, u, a, k, pl⟩ 1073741824 with
  | false =>
    rw [hr] at HE
    clear hr
    rw [if_neg (by decide)]
    unfold bs
    go_wp2
    generalize hv : ((((((((y.setCell ⟨w.heap.size, 0, none⟩ (.int .i64 0)).setCell ⟨w.heap.size, 1, none⟩ (.int .i64 0)).setCell ⟨w.heap.size, 2, none⟩ (.int .i64 0)).setCell ⟨w.heap.size, 3, none⟩ (.int .i64 0)).setCell ⟨w.heap.size, 4, none⟩ (.int .i64 0)).setCell ⟨w.heap.size, 5, none⟩ (.int .i64 0)).setCell ⟨w.heap.size, 6, none⟩ (.int .u32 0)).setCell ⟨w.heap.size, 7, none⟩ (.int .i64 0)) = v9
    have hv2 : put8 y w.heap.size ⟨0, 0, 0, 0, 0, 0, 0, 0⟩ = v9 := hv
    clear hv
    have hA := put8_ib (i := ⟨0, 0, 0, 0, 0, 0, 0, 0⟩) m3
    have hC := put8_below (i := ⟨0, 0, 0, 0, 0, 0, 0, 0⟩) b4 (Nat.le_refl _)
    rw [hv2] at hA hC
    clear hv2
    obtain ⟨q0, q1, q2, q3, q4, q5, q6, q7⟩ := hA.cells
    simp only at q0 q1 q2 q3 q4 q5 q6 q7
    refine bodyPost_ret (v := .tuple #[.agg #[.int .i64 0, .int .i64 0, .int .i64 0, .int .i64 0, .int .i64 0, .int .i64 0, .int .u32 0, .int .i64 0], .int .i64 8]) (by simp [results, Tryz.results61, go_sem, q0, q1, q2, q3, q4, q5, q6, q7]) rfl ⟨?_, hC⟩
    rw [HE.out]; rfl
  | true =>
    rw [hr] at HE
    clear hr
    rw [if_pos rfl]
    generalize textL ⟨op, d, s', t, u, a, k, pl⟩ = tx at *
    unfold bs
    by_cases hq : tx = s
    · subst hq
      have hq1 : (tx == tx) = true := by simp
      have HE2 := Lib.hid (HE.out.trans (if_pos (by simp)))
      clear HE
      go_wp2
      generalize hv : ((((((((y.setCell ⟨w.heap.size, 0, none⟩ (.int .i64 op)).setCell ⟨w.heap.size, 1, none⟩ (.int .i64 d)).setCell ⟨w.heap.size, 2, none⟩ (.int .i64 s')).setCell ⟨w.heap.size, 3, none⟩ (.int .i64 t)).setCell ⟨w.heap.size, 4, none⟩ (.int .i64 u)).setCell ⟨w.heap.size, 5, none⟩ (.int .i64 a)).setCell ⟨w.heap.size, 6, none⟩ (.int .u32 k)).setCell ⟨w.heap.size, 7, none⟩ (.int .i64 pl)) = v9
      have hv2 : put8 y w.heap.size ⟨op, d, s', t, u, a, k, pl⟩ = v9 := hv
      clear hv
      have hA := put8_ib (i := ⟨op, d, s', t, u, a, k, pl⟩) m3
      have hC := put8_below (i := ⟨op, d, s', t, u, a, k, pl⟩) b4 (Nat.le_refl _)
      rw [hv2] at hA hC
      clear hv2
      obtain ⟨q0, q1, q2, q3, q4, q5, q6, q7⟩ := hA.cells
      simp only at q0 q1 q2 q3 q4 q5 q6 q7
      refine bodyPost_ret (v := .tuple #[.agg #[.int .i64 op, .int .i64 d, .int .i64 s', .int .i64 t, .int .i64 u, .int .i64 a, .int .u32 k, .int .i64 pl], .int .i64 0]) (by simp [results, Tryz.results61, go_sem, q0, q1, q2, q3, q4, q5, q6, q7]) rfl ⟨?_, hC⟩
      rw [HE2.out]; rfl
    · have hq1 : (tx == s) = false := by simpa using hq
      have HE2 := Lib.hid (HE.out.trans (if_neg (by simp [hq])))
      clear HE hq
      go_wp2
      generalize hv : ((((((((y.setCell ⟨w.heap.size, 0, none⟩ (.int .i64 0)).setCell ⟨w.heap.size, 1, none⟩ (.int .i64 0)).setCell ⟨w.heap.size, 2, none⟩ (.int .i64 0)).setCell ⟨w.heap.size, 3, none⟩ (.int .i64 0)).setCell ⟨w.heap.size, 4, none⟩ (.int .i64 0)).setCell ⟨w.heap.size, 5, none⟩ (.int .i64 0)).setCell ⟨w.heap.size, 6, none⟩ (.int .u32 0)).setCell ⟨w.heap.size, 7, none⟩ (.int .i64 0)) = v9
      have hv2 : put8 y w.heap.size ⟨0, 0, 0, 0, 0, 0, 0, 0⟩ = v9 := hv
      clear hv
      have hA := put8_ib (i := ⟨0, 0, 0, 0, 0, 0, 0, 0⟩) m3
      have hC := put8_below (i := ⟨0, 0, 0, 0, 0, 0, 0, 0⟩) b4 (Nat.le_refl _)
      rw [hv2] at hA hC
      clear hv2
      obtain ⟨q0, q1, q2, q3, q4, q5, q6, q7⟩ := hA.cells
      simp only at q0 q1 q2 q3 q4 q5 q6 q7
      refine bodyPost_ret (v := .tuple #[.agg #[.int .i64 0, .int .i64 0, .int .i64 0, .int .i64 0, .int .i64 0, .int .i64 0, .int .u32 0, .int .i64 0], .int .i64 8]) (by simp [results, Tryz.results61, go_sem, q0, q1, q2, q3, q4, q5, q6, q7]) rfl ⟨?_, hC⟩
      rw [HE2.out]; rfl
end Go.Proofs.YteohnkilchkhkaaGreatDoor
