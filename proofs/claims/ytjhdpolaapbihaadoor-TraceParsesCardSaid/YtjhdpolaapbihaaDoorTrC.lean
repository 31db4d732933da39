/- Layer 12: the entry of a line, by the program (kindOf, valueOf, draft, ParseLine) and by the document (number, ParseLine). -/
import Derived.Test.YtjhdpolaapbihaaDoorTrB
namespace Go.Proofs.YtjhdpolaapbihaaDoor
open Go.ChangeShapes Go.WideShapes Go.ChangeAt Go.RowKit Go.Shelf
set_option linter.unusedVariables false

theorem lCutAt (s : List UInt8) (hl : s.length < 1000000) (w : World) (L : Lb w) :
    Calls Tryd.prog 40 #[bs s, bs [32]] w fun e w' => e = .returned (.tuple #[bs (Lib.cut s [32]).1, bs (Lib.cut s [32]).2.1, .bool (Lib.cut s [32]).2.2]) ∧ Below w.heap.size w w' := by
  obtain ⟨m, hm⟩ := L.mx
  exact (Any.strings_Cut { Tryd.laysM145 with } ⟨s.toArray⟩ ⟨#[32]⟩ m w (by show s.toArray.size < _; simp; omega) hm).mono fun _ _ ⟨he, n, hw⟩ => ⟨he, by rw [hw]; exact ⟨rfl, rfl, rfl, Nat.le_refl _, fun _ _ => rfl⟩⟩

set_option maxRecDepth 100000 in
theorem cKindOf (s : List UInt8) (w : World) (L : Lt w) :
    Calls Tryd.prog 41 #[bs s] w fun e w' => e = .returned (.int .i64 (kindT s)) ∧ w = w' := by
  have HW := Lib.hid L.word
  have HK := Lib.hid (fun (k : Nat) (h1 : 1 ≤ k) (h2 : k ≤ 10) (h : wordT k = s) => (kind_of (w := s) (k := k) (by omega) (by omega) h))
  have HN := Lib.hid (fun (h : ∀ k : Nat, 1 ≤ k → k ≤ 10 → wordT k ≠ s) => show kindT s = 0 from by
    rcases Decidable.em (1 ≤ kindT s) with h1 | h1
    · have h2 := kind_range s
      have h3 := word_kind h1
      exact absurd (by rw [show ((kindT s).toNat : Int) = kindT s by omega]; exact h3) (h (kindT s).toNat (by omega) (by omega))
    · have h2 := kind_range s
      omega)
  generalize kindT s = r at *
  clear L
  unfold bs
  go_enter Tryd.func41, Tryd.ntmps41
  go_wp2
  go_loop [3] (fun v => ∃ k : Nat, 1 ≤ k ∧ k ≤ 11 ∧ v = .int .i64 k ∧ Hid (∀ j : Nat, 1 ≤ j → j < k → wordT j ≠ s)) (fun v => 11 - (intOf v).toNat)
  case atStart => exact ⟨1, by omega, by omega, rfl, Lib.hid (fun j h1 h2 => by omega)⟩
  case round =>
    obtain ⟨k, hk1, hk2, rfl, HR⟩ := hrel
    by_cases hlt : k ≤ 10
    · have hc := HW.out k hlt
      have hK := Lib.hid (HK.out k hk1 hlt)
      have hS : Hid (wordT k ≠ s → ∀ j : Nat, 1 ≤ j → j < k + 1 → wordT j ≠ s) := Lib.hid (fun hne j h1 h2 => by
        rcases Decidable.em (j = k) with rfl | h
        · exact hne
        · exact HR.out j h1 (by omega))
      generalize wordT k = wd at *
      have k3 : (k : Int) < 11 := by omega
      have k4 : (k : Int) ≤ 10 := by omega
      by_cases hq : wd = s
      · have hr := hK.out hq
        have hq1 : (wd == s) = true := by simpa using hq
        clear hq HK HN HW HR
        have HR2 := Lib.hid hr
        clear hr
        go_wp2
        go_ret
        exact ⟨ret_int HR2.out.symm, rfl⟩
      · have hq1 : (wd == s) = false := by simpa using hq
        have HS := Lib.hid (hS.out hq)
        clear hq HK HN HW HR
        go_wp2
        go_round
        case rel => exact ⟨k + 1, by omega, by omega, by go_num, HS⟩
        case measure => simp [intOf]; omega
    · obtain rfl : k = 11 := by omega
      have h0 := HN.out (fun k h1 h2 => HR.out k h1 (by omega))
      have HR2 := Lib.hid h0
      clear HK HN HW HR h0
      go_wp2
      go_ret
      exact ⟨ret_int HR2.out.symm, rfl⟩

theorem cValueOf (s : List UInt8) (hl : s.length < 1000000) (w : World) (L : Lb w) :
    Calls Tryd.prog 42 #[bs s] w fun e w' => e = .returned (.int .i64 (atT s)) ∧ Below w.heap.size w w' := by
  have E : atT s = (match Lib.atoiAll s with | .ok v => v | _ => -1) := rfl
  generalize atT s = r at *
  cases ha : Lib.atoiAll s with
  | ok x =>
    rw [ha] at E
    have HE := Lib.hid E
    have HA := Lib.hid (fun W => lAtoiOk s (by omega) x ha W)
    clear E ha
    unfold bs at HA ⊢
    go_enter Tryd.func42, Tryd.ntmps42
    go_wp2_with fail
    refine (HA.out _).mono ?_
    rintro e y ⟨rfl, hy⟩
    go_wp2
    go_ret
    exact ⟨ret_int HE.out.symm, hy⟩
  | _ =>
    rw [ha] at E
    have HE := Lib.hid E
    have HA := Lib.hid (fun W LW => lAtoiNo s (by omega) (by rw [ha]; intro v h; cases h) W LW)
    clear E ha
    unfold bs at HA ⊢
    go_enter Tryd.func42, Tryd.ntmps42
    go_wp2_with fail
    refine (HA.out _ L).mono ?_
    rintro e y ⟨v, b, rfl, hy⟩
    go_wp2
    go_ret
    exact ⟨ret_int HE.out.symm, hy⟩

set_option maxHeartbeats 2000000 in
set_option maxRecDepth 100000 in
theorem cDraft (s : List UInt8) (hl : s.length < 1000000) (w : World) (L : Lt w) :
    Calls Tryd.prog 31 #[bs s] w fun e w' => e = .returned (enV (draftT s)) ∧ Below w.heap.size w w' := by
  have E : draftT s = ⟨kindT (Lib.cut s [32]).1, atT (Lib.cut (Lib.cut s [32]).2.1 [32]).1, atT (Lib.cut (Lib.cut s [32]).2.1 [32]).2.1⟩ := rfl
  have H1 := Lib.hid (fun W LW => lCutAt s hl W LW)
  have l1 := cut_len s
  generalize Lib.cut s [32] = c1 at *
  obtain ⟨p1, p2, p3⟩ := c1
  simp only at E H1 l1
  have H2 := Lib.hid (fun W LW => lCutAt p2 (by omega) W LW)
  have l2 := cut_len p2
  generalize Lib.cut p2 [32] = c2 at *
  obtain ⟨q1, q2, q3⟩ := c2
  simp only at E H2 l2
  have HK := Lib.hid (fun W LW => cKindOf p1 W LW)
  have HA := Lib.hid (fun W LW => cValueOf q1 (by omega) W LW)
  have HB := Lib.hid (fun W LW => cValueOf q2 (by omega) W LW)
  generalize kindT p1 = k at *
  generalize atT q1 = t at *
  generalize atT q2 = n at *
  rw [E]
  clear E l1 l2
  unfold bs at *
  unfold enV
  simp only
  go_enter Tryd.func31, Tryd.ntmps31
  go_wp2_with fail
  have b0 : Below w.heap.size w (w.alloc (.cells #[.int .i64 0, .int .i64 0, .int .i64 0] 33)) := (Below.refl _ _).alloc (Nat.le_refl _) _
  have i0 := Nb.made 33 w 0 0 0
  generalize w.alloc (.cells #[.int .i64 0, .int .i64 0, .int .i64 0] 33) = x at *
  refine (H1.out _ (L.below b0).lib).mono ?_
  rintro e y ⟨rfl, hy⟩
  replace i0 := i0.below hy
  replace b0 := b0.trans (hy.mono b0.size)
  clear hy
  go_wp2_with fail
  refine (H2.out _ (L.below b0).lib).mono ?_
  rintro e y2 ⟨rfl, hy⟩
  replace i0 := i0.below hy
  replace b0 := b0.trans (hy.mono b0.size)
  clear hy
  go_wp2_with fail
  refine (HK.out _ (L.below b0)).mono ?_
  rintro e y3 ⟨rfl, rfl⟩
  go_wp2_with fail
  refine (HA.out _ (L.below b0).lib).mono ?_
  rintro e y3 ⟨rfl, hy⟩
  replace i0 := i0.below hy
  replace b0 := b0.trans (hy.mono b0.size)
  clear hy
  go_wp2_with fail
  refine (HB.out _ (L.below b0).lib).mono ?_
  rintro e y4 ⟨rfl, hy⟩
  replace i0 := i0.below hy
  replace b0 := b0.trans (hy.mono b0.size)
  clear hy
  have o1 := put3_bk i0 (.int .i64 k) (.int .i64 t) (.int .i64 n)
  have bz := put3_below b0 (Nat.le_refl _) (.int .i64 k) (.int .i64 t) (.int .i64 n)
  obtain ⟨c0, c1, c2⟩ := i0.cells
  simp only at c0 c1 c2
  have hf := Bk.free i0
  go_wp2_with (refine bodyPost_ret (v := .agg #[.int .i64 k, .int .i64 t, .int .i64 n]) (w := put3 y4 w.heap.size (.int .i64 k) (.int .i64 t) (.int .i64 n)) ?hres rfl ?hpost)
  case hres =>
    clear bz
    generalize put3 y4 w.heap.size (.int .i64 k) (.int .i64 t) (.int .i64 n) = v9 at *
    obtain ⟨o0, o2, o3⟩ : v9.cell? ⟨w.heap.size, 0, none⟩ = some (.int .i64 k) ∧ v9.cell? ⟨w.heap.size, 1, none⟩ = some (.int .i64 t) ∧ v9.cell? ⟨w.heap.size, 2, none⟩ = some (.int .i64 n) := ⟨o1.cell 0, o1.cell 1, o1.cell 2⟩
    simp [results, Tryd.results31, go_sem, o0, o2, o3]

/-- What ParseLine answers. -/
def parV (s : List UInt8) : Value := match docT s with
  | some x => .tuple #[enV x, .bool true]
  | none => .tuple #[.agg #[.int .i64 0, .int .i64 0, .int .i64 0], .bool false]

set_option maxHeartbeats 2000000 in
set_option maxRecDepth 100000 in
theorem cParseLine (s : List UInt8) (hl : s.length < 1000000) (w : World) (L : Lt w) :
    Calls Tryd.prog 20 #[bs s] w fun e w' => e = .returned (parV s) ∧ Below w.heap.size w w' := by
  have E : parV s = (match docT s with | some x => .tuple #[enV x, .bool true] | none => .tuple #[.agg #[.int .i64 0, .int .i64 0, .int .i64 0], .bool false]) := rfl
  rw [← prog_doc] at E
  unfold progT at E
  have HD := Lib.hid (fun W LW => cDraft s hl W LW)
  have HL := Lib.hid (fun W LW => cLine (draftT s) W LW)
  unfold lineV at HL
  generalize draftT s = x at *
  generalize parV s = r at *
  by_cases hf : fitsB x = true ∧ lineT x = s
  · rw [if_pos hf] at E
    obtain ⟨hf1, rfl⟩ := hf
    rw [if_pos hf1] at HL
    have HE := Lib.hid E
    clear E hf1 hl
    generalize lineT x = s at *
    have hq1 : (s != s) = false := by simp
    obtain ⟨k, t, n⟩ := x
    unfold enV bs at *
    simp only at HD HL HE
    go_enter Tryd.func20, Tryd.ntmps20
    go_wp2_with fail
    have b0 : Below w.heap.size w (w.alloc (.cells #[.int .i64 0, .int .i64 0, .int .i64 0] 33)) := (Below.refl _ _).alloc (Nat.le_refl _) _
    have i0 := Nb.made 33 w 0 0 0
    generalize w.alloc (.cells #[.int .i64 0, .int .i64 0, .int .i64 0] 33) = y at *
    refine (HD.out _ (L.below b0)).mono ?_
    rintro e y1 ⟨rfl, hy⟩
    replace i0 := i0.below hy
    replace b0 := b0.trans (hy.mono b0.size)
    clear hy
    have hlt := Bk.lt i0
    go_wp2_with fail
    have b1 := b0.alloc (o := .cells #[.int .i64 k, .int .i64 t, .int .i64 n] 33) b0.size
    have i1 := Nb.made 33 y1 k t n
    replace i0 := Bk.alloc i0 (.cells #[.int .i64 k, .int .i64 t, .int .i64 n] 33)
    generalize y1.alloc (.cells #[.int .i64 k, .int .i64 t, .int .i64 n] 33) = y2 at *
    generalize y1.heap.size = g at *
    refine (HL.out _ (L.below b1)).mono ?_
    rintro e y3 ⟨rfl, hy⟩
    replace i0 := Nb.below i0 hy
    replace i1 := i1.below hy
    replace b1 := b1.trans (hy.mono b1.size)
    clear hy b0
    have o1 := put3_bk i0 (.int .i64 k) (.int .i64 t) (.int .i64 n)
    have bz := put3_below b1 (Nat.le_refl _) (.int .i64 k) (.int .i64 t) (.int .i64 n)
    obtain ⟨c0, c1, c2⟩ := i1.cells
    obtain ⟨z0, z1, z2⟩ := Nb.cells i0
    simp only at c0 c1 c2 z0 z1 z2
    have hf := Bk.free i0
    go_wp2_with (refine bodyPost_ret (v := .tuple #[.agg #[.int .i64 k, .int .i64 t, .int .i64 n], .bool true]) (w := put3 y3 w.heap.size (.int .i64 k) (.int .i64 t) (.int .i64 n)) ?hres rfl ?hpost)
    case hpost => exact ⟨by rw [HE.out], bz⟩
    case hres =>
      clear bz
      generalize put3 y3 w.heap.size (.int .i64 k) (.int .i64 t) (.int .i64 n) = v9 at *
      obtain ⟨o0, o2, o3⟩ : v9.cell? ⟨w.heap.size, 0, none⟩ = some (.int .i64 k) ∧ v9.cell? ⟨w.heap.size, 1, none⟩ = some (.int .i64 t) ∧ v9.cell? ⟨w.heap.size, 2, none⟩ = some (.int .i64 n) := ⟨o1.cell 0, o1.cell 1, o1.cell 2⟩
      simp [results, Tryd.results20, go_sem, o0, o2, o3]
  · rw [if_neg hf] at E
    have HE := Lib.hid E
    obtain ⟨ls, b, hlv, hno⟩ : ∃ ls b, (if fitsB x = true then Value.tuple #[bs (lineT x), .bool true] else .tuple #[bs [], .bool false]) = .tuple #[.string ⟨ls.toArray⟩, .bool b] ∧ (b = false ∨ (b = true ∧ (ls == s) = false)) := by
      cases hb : fitsB x with
      | true => exact ⟨lineT x, true, rfl, .inr ⟨rfl, by simpa using fun e => hf ⟨hb, e⟩⟩⟩
      | false => exact ⟨[], false, rfl, .inl rfl⟩
    rw [hlv] at HL
    clear E hf hl hlv
    obtain ⟨k, t, n⟩ := x
    unfold enV bs at *
    simp only at HD HL HE
    go_enter Tryd.func20, Tryd.ntmps20
    go_wp2_with fail
    have b0 : Below w.heap.size w (w.alloc (.cells #[.int .i64 0, .int .i64 0, .int .i64 0] 33)) := (Below.refl _ _).alloc (Nat.le_refl _) _
    have i0 := Nb.made 33 w 0 0 0
    generalize w.alloc (.cells #[.int .i64 0, .int .i64 0, .int .i64 0] 33) = y at *
    refine (HD.out _ (L.below b0)).mono ?_
    rintro e y1 ⟨rfl, hy⟩
    replace i0 := i0.below hy
    replace b0 := b0.trans (hy.mono b0.size)
    clear hy
    have hlt := Bk.lt i0
    go_wp2_with fail
    have b1 := b0.alloc (o := .cells #[.int .i64 k, .int .i64 t, .int .i64 n] 33) b0.size
    have i1 := Nb.made 33 y1 k t n
    replace i0 := Bk.alloc i0 (.cells #[.int .i64 k, .int .i64 t, .int .i64 n] 33)
    generalize y1.alloc (.cells #[.int .i64 k, .int .i64 t, .int .i64 n] 33) = y2 at *
    generalize y1.heap.size = g at *
    refine (HL.out _ (L.below b1)).mono ?_
    rintro e y3 ⟨rfl, hy⟩
    replace i0 := Nb.below i0 hy
    replace i1 := i1.below hy
    replace b1 := b1.trans (hy.mono b1.size)
    clear hy b0
    have o1 := put3_bk i0 (.int .i64 0) (.int .i64 0) (.int .i64 0)
    have bz := put3_below b1 (Nat.le_refl _) (.int .i64 0) (.int .i64 0) (.int .i64 0)
    obtain ⟨z0, z1, z2⟩ := Nb.cells i0
    simp only at z0 z1 z2
    have hf := Bk.free i0
    rcases hno with rfl | ⟨rfl, hne⟩
    all_goals
      go_wp2_with (refine bodyPost_ret (v := .tuple #[.agg #[.int .i64 0, .int .i64 0, .int .i64 0], .bool false]) (w := put3 y3 w.heap.size (.int .i64 0) (.int .i64 0) (.int .i64 0)) ?hres rfl ?hpost)
      case hpost => exact ⟨by rw [HE.out], bz⟩
      case hres =>
        clear bz
        generalize put3 y3 w.heap.size (.int .i64 0) (.int .i64 0) (.int .i64 0) = v9 at *
        obtain ⟨o0, o2, o3⟩ : v9.cell? ⟨w.heap.size, 0, none⟩ = some (.int .i64 0) ∧ v9.cell? ⟨w.heap.size, 1, none⟩ = some (.int .i64 0) ∧ v9.cell? ⟨w.heap.size, 2, none⟩ = some (.int .i64 0) := ⟨o1.cell 0, o1.cell 1, o1.cell 2⟩
        simp [results, Tryd.results20, go_sem, o0, o2, o3]
end Go.Proofs.YtjhdpolaapbihaaDoor
