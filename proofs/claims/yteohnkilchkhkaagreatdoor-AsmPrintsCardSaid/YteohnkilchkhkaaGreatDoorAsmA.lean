/- asm.isName, asm.hasPlace. -/
import Derived.Test.YteohnkilchkhkaaGreatDoorAsmM
import Derived.Test.YteohnkilchkhkaaGreatDoorInstB
import Derived.Laws.RangeAny
import Derived.Lib.OthersKept
namespace Go.Proofs.YteohnkilchkhkaaGreatDoor
open Go.ChangeShapes Go.WideShapes Go.ChangeAt Go.RowKit
set_option linter.unusedVariables false

theorem iterPos_of {w : World} {k : Nat} {s : ByteArray} {p : Nat} (h : w.heap[k]? = some (.stringIter s p)) : w.iterPos k = p := by simp [World.iterPos, h]

theorem rest_drop (s : List UInt8) (n : Nat) (h : n < s.length) : restB (s.drop n) n = (okAt n (s.getD n 0) && restB (s.drop (n + 1)) (n + 1)) := by
  rw [List.drop_eq_getElem_cons h, restB]
  simp [List.getD_eq_getElem?_getD, h]

/-- .. of a byte as a number. -/
def okN (n c : Nat) : Bool := (decide (97 ≤ c) && decide (c ≤ 122)) || ((decide (48 ≤ c) && decide (c ≤ 57)) && decide (n ≠ 0))
theorem okAt_n (n : Nat) (c : UInt8) : okAt n c = okN n c.toNat := rfl
theorem okN_yes {n c : Nat} (h : okN n c = true) : (97 ≤ c ∧ c ≤ 122) ∨ (48 ≤ c ∧ c ≤ 57 ∧ n ≠ 0) := by
  unfold okN at h
  simp only [Bool.or_eq_true, Bool.and_eq_true, decide_eq_true_eq] at h
  omega
theorem okN_no {n c : Nat} (h : okN n c = false) : c < 48 ∨ (48 ≤ c ∧ c ≤ 57 ∧ n = 0) ∨ (57 < c ∧ c < 97) ∨ 122 < c := by
  unfold okN at h
  simp only [Bool.or_eq_false_iff, Bool.and_eq_false_iff, decide_eq_false_iff_not] at h
  omega

set_option maxHeartbeats 1000000 in
theorem cIsName (s : List UInt8) (w : World) :
    Calls Tryz.prog 38 #[bs s] w fun e w' => e = .returned (.bool (nameB s)) ∧ Below w.heap.size w w' := by
  have hsz : (⟨s.toArray⟩ : ByteArray).size = s.length := by show s.toArray.size = _; simp
  unfold bs
  by_cases h0 : s = []
  · subst h0
    go_enter Tryz.func38, Tryz.ntmps38
    go_wp2
    go_ret
    exact ⟨rfl, Below.refl _ _⟩
  by_cases h1 : 16 < s.length
  · have e : nameB s = false := by
      unfold nameB
      have : decide (s.length ≤ 16) = false := by simp; omega
      simp [this]
    rw [e]
    have q0 : (s == []) = false := by simpa using h0
    have q1 : (16 : Int) < s.length := by omega
    go_enter Tryz.func38, Tryz.ntmps38
    go_wp2
    go_ret
    exact ⟨rfl, Below.refl _ _⟩
  have q0 : (s == []) = false := by simpa using h0
  have q1 : ¬ (16 : Int) < s.length := by omega
  have hl : 1 ≤ s.length := by cases s with
    | nil => exact absurd rfl h0
    | cons => simp
  have HN := Lib.hid (name_rest s hl (by omega))
  generalize nameB s = r at *
  go_enter Tryz.func38, Tryz.ntmps38
  go_wp2
  go_loopw [2] (fun v wr => ∃ n : Nat, v = .bool false ∧ n ≤ s.length ∧ wr.heap[w.heap.size]? = some (.stringIter ⟨s.toArray⟩ n) ∧ Below w.heap.size w wr ∧ Hid (r = restB (s.drop n) n))
    (fun v wr => s.length - wr.iterPos w.heap.size)
  case atStart => exact ⟨0, rfl, by omega, World.iter_heap w _ 0, (Below.refl _ _).alloc (Nat.le_refl _) _, Lib.hid (by simpa using HN.out)⟩
  case round =>
    obtain ⟨n, rfl, hn, hit, hb, HR⟩ := hrel
    have hpos := iterPos_of hit
    by_cases hp : n < s.length
    · have hnx : ∀ ty, (Instr.next (.pointer (some ⟨w.heap.size, 0, none⟩)) true ty).run Tryz.prog wr = _ := fun ty => Lib.run_next_any_at wr w.heap.size ⟨s.toArray⟩ n ty hit (by omega)
      have hg : (⟨s.toArray⟩ : ByteArray)[n]'(by omega) = s.getD n 0 := by
        simp [ByteArray.getElem_eq_getElem_data, hp]
      have HD := Lib.hid (rest_drop s n hp)
      have HK : Hid (okAt n (s.getD n 0) = okN n (s.getD n 0).toNat) := Lib.hid (okAt_n _ _)
      have hit2 := Lib.iterAt_heap wr w.heap.size ⟨s.toArray⟩ n (n + (Utf8.decode ⟨s.toArray⟩ n).2) hit
      have hb2 := Lib.below_iterAt hb (k := w.heap.size) (Nat.le_refl _) ⟨s.toArray⟩ (n + (Utf8.decode ⟨s.toArray⟩ n).2)
      by_cases hc : (s.getD n 0).toNat < 128
      · have hd := decode_ascii ⟨s.toArray⟩ n (by omega) (by rw [hg]; exact hc)
        rw [hg] at hd
        rw [hd] at hnx hit2 hb2
        simp only at hnx hit2 hb2
        clear hd hg hc
        generalize wr.iterAt w.heap.size ⟨s.toArray⟩ (n + 1) = W1 at *
        rw [HK.out] at HD
        clear HK
        generalize (s.getD n 0).toNat = c at *
        clear hit
        cases ho : okN n c with
        | true =>
          have HR2 : Hid (r = restB (s.drop (n + 1)) (n + 1)) := Lib.hid (by rw [HR.out, HD.out, ho]; simp)
          rcases okN_yes ho with ⟨k1, k2⟩ | ⟨k1, k2, k3⟩
          · have z1 : (97 : Int) ≤ (c : Int) := by omega
            have z2 : (c : Int) ≤ 122 := by omega
            clear HR HD ho k1 k2
            go_wp2
            all_goals (
              go_roundw
              case rel => exact ⟨n + 1, rfl, by omega, hit2, hb2, HR2⟩
              case measure => rw [iterPos_of hit2, hpos]; omega)
          · have z1 : ¬ (97 : Int) ≤ (c : Int) := by omega
            have z2 : (48 : Int) ≤ (c : Int) := by omega
            have z3 : (c : Int) ≤ 57 := by omega
            have z4 : ((n : Int) == 0) = false := by simp; omega
            clear HR HD ho k1 k2
            go_wp2
            all_goals (
              go_roundw
              case rel => exact ⟨n + 1, rfl, by omega, hit2, hb2, HR2⟩
              case measure => rw [iterPos_of hit2, hpos]; omega)
        | false =>
          have HR2 : Hid (r = false) := Lib.hid (by rw [HR.out, HD.out, ho]; simp)
          rcases okN_no ho with k1 | ⟨k1, k2, k3⟩ | ⟨k1, k2⟩ | k1
          · have z1 : ¬ (97 : Int) ≤ (c : Int) := by omega
            have z2 : ¬ (48 : Int) ≤ (c : Int) := by omega
            clear HR HD ho k1
            go_wp2
            go_ret
            exact ⟨by rw [HR2.out]; rfl, hb2⟩
          · have z1 : ¬ (97 : Int) ≤ (c : Int) := by omega
            have z2 : (48 : Int) ≤ (c : Int) := by omega
            have z3 : (c : Int) ≤ 57 := by omega
            have z4 : ((n : Int) == 0) = true := by simp; omega
            clear HR HD ho k1 k2
            go_wp2
            go_ret
            exact ⟨by rw [HR2.out]; rfl, hb2⟩
          · have z1 : ¬ (97 : Int) ≤ (c : Int) := by omega
            have z2 : (48 : Int) ≤ (c : Int) := by omega
            have z3 : ¬ (c : Int) ≤ 57 := by omega
            clear HR HD ho k1 k2
            go_wp2
            go_ret
            exact ⟨by rw [HR2.out]; rfl, hb2⟩
          · have z1 : (97 : Int) ≤ (c : Int) := by omega
            have z2 : ¬ (c : Int) ≤ 122 := by omega
            have z3 : (48 : Int) ≤ (c : Int) := by omega
            have z4 : ¬ (c : Int) ≤ 57 := by omega
            clear HR HD ho k1
            go_wp2
            go_ret
            exact ⟨by rw [HR2.out]; rfl, hb2⟩
      · have hd := (decode_high ⟨s.toArray⟩ n (by omega) (by rw [hg]; omega)).1
        have HR2 : Hid (r = false) := Lib.hid (by
          rw [HR.out, HD.out, HK.out]
          have : okN n (s.getD n 0).toNat = false := by
            cases ho : okN n (s.getD n 0).toNat with
            | false => rfl
            | true => rcases okN_yes ho with ⟨k1, k2⟩ | ⟨k1, k2, k3⟩ <;> omega
          rw [this]; simp)
        generalize (Utf8.decode ⟨s.toArray⟩ n).1 = c at *
        generalize wr.iterAt w.heap.size ⟨s.toArray⟩ (n + (Utf8.decode ⟨s.toArray⟩ n).2) = W1 at *
        have z1 : (97 : Int) ≤ (c : Int) := by omega
        have z2 : ¬ (c : Int) ≤ 122 := by omega
        have z3 : (48 : Int) ≤ (c : Int) := by omega
        have z4 : ¬ (c : Int) ≤ 57 := by omega
        clear HR HD HK hd hc hg hit2 hit
        go_wp2
        go_ret
        exact ⟨by rw [HR2.out]; rfl, hb2⟩
    · have hnx : ∀ ty, (Instr.next (.pointer (some ⟨w.heap.size, 0, none⟩)) true ty).run Tryz.prog wr = _ := fun ty => Lib.run_next_end_at wr w.heap.size ⟨s.toArray⟩ n ty hit (by omega)
      have HR2 : Hid (r = true) := Lib.hid (by rw [HR.out, List.drop_of_length_le (by omega)]; rfl)
      clear HR hit
      go_wp2
      go_ret
      exact ⟨by rw [HR2.out]; rfl, hb⟩

theorem place_cases (i : Ins) : (placeB i = true ∧ (i.op = 8 ∨ i.op = 9 ∨ i.op = 10)) ∨ (i.op = 21 ∧ placeB i = decide (i.pl ≠ -1)) ∨ (placeB i = false ∧ i.op ≠ 8 ∧ i.op ≠ 9 ∧ i.op ≠ 10 ∧ i.op ≠ 21) := by
  unfold placeB
  by_cases h : i.op = 8 ∨ i.op = 9 ∨ i.op = 10
  · exact .inl ⟨by simp [h], h⟩
  by_cases h2 : i.op = 21
  · exact .inr (.inl ⟨h2, by simp [h2]⟩)
  · exact .inr (.inr ⟨by simp [h, h2], by omega, by omega, by omega, h2⟩)

theorem cHasPlace (i : Ins) (w : World) :
    Calls Tryz.prog 52 #[iv i] w fun e w' => e = .returned (.bool (placeB i)) ∧ Below w.heap.size w w' := by
  have hb : ∀ cs : Array Value, Below w.heap.size w (w.alloc (.cells cs 47)) := fun cs => (Below.refl _ _).alloc (Nat.le_refl _) _
  have HP := place_cases i
  generalize placeB i = r at *
  obtain ⟨op, d, s, t, u, a, k, pl⟩ := i
  simp only at HP
  unfold iv
  rcases HP with ⟨rfl, rfl | rfl | rfl⟩ | ⟨rfl, h⟩ | ⟨rfl, h1, h2, h3, h4⟩
  · go_enter Tryz.func52, Tryz.ntmps52
    go_wp2
    go_ret
    exact ⟨rfl, hb _⟩
  · go_enter Tryz.func52, Tryz.ntmps52
    go_wp2
    go_ret
    exact ⟨rfl, hb _⟩
  · go_enter Tryz.func52, Tryz.ntmps52
    go_wp2
    go_ret
    exact ⟨rfl, hb _⟩
  · have HH := Lib.hid h
    clear h
    go_enter Tryz.func52, Tryz.ntmps52
    go_wp2
    go_ret
    refine ⟨?_, hb _⟩
    rw [HH.out]
    congr 2
    simp [bne]
    by_cases e : pl = -1 <;> simp [e]
  · have e1 : (op == 8) = false := by simpa using h1
    have e2 : (op == 9) = false := by simpa using h2
    have e3 : (op == 10) = false := by simpa using h3
    have e4 : (op == 21) = false := by simpa using h4
    go_enter Tryz.func52, Tryz.ntmps52
    go_wp2
    go_ret
    exact ⟨rfl, hb _⟩
end Go.Proofs.YteohnkilchkhkaaGreatDoor
