/- slices.Equal of instructions, asm.Same, the document's Same. -/
import Derived.Test.YteohnkilchkhkaaGreatDoorPrg
import Derived.Deep.QuietTactic
import Derived.BigQuiet
namespace Go.Proofs.YteohnkilchkhkaaGreatDoor
open Go.ChangeShapes Go.WideShapes Go.ChangeAt Go.RowKit
set_option linter.unusedVariables false

theorem run_neI (i j : Ins) (w : World) : (binOp .neq 47 (iv i) (iv j)).run Tryz.prog w = .ok (.bool (!eqI i j)) w := by
  unfold iv
  have hu := Tryz.underlying47
  go_simp
  unfold eqI
  repeat' split
  all_goals simp [*]
theorem run_neJ (i j : Ins) (w : World) : (binOp .neq 62 (iv i) (iv j)).run Tryz.prog w = .ok (.bool (!eqI i j)) w := by
  unfold iv
  have hu := Tryz.underlying62
  go_simp
  unfold eqI
  repeat' split
  all_goals simp [*]

set_option maxHeartbeats 1000000 in
theorem lEqual (l m : List Ins) (a b : Option Addr) (ca cb : Nat) (w : World) (ha : Sli w a l) (hb : Sli w b m) (hl : l.length ≤ 100000) :
    Calls Tryz.prog 34 #[.slice a l.length ca, .slice b m.length cb] w fun e w' => e = .returned (.bool (sameL l m)) ∧ Below w.heap.size w w' := by
  by_cases hlm : l.length = m.length
  case neg =>
    have hne : ((l.length : Int) != m.length) = true := by simp; omega
    have HS := Lib.hid (sameL_len hlm)
    clear hlm
    go_enter Tryz.func34, Tryz.ntmps34
    go_wp2
    go_ret
    exact ⟨by rw [HS.out]; rfl, Below.refl _ _⟩
  case pos =>
    have HS : Hid (sameL l m = sameL (l.drop 0) (m.drop 0)) := Lib.hid (by simp)
    generalize sameL l m = r at *
    have hne : ((l.length : Int) != m.length) = false := by simp; omega
    rw [← hlm]
    go_enter Tryz.func34, Tryz.ntmps34
    go_wp2
    go_loopw [4, 13] (fun q i wr => ∃ k : Nat, q = .bool false ∧ k ≤ l.length ∧ i = .int .i64 k ∧ Below w.heap.size w wr ∧ Hid (r = sameL (l.drop k) (m.drop k))) (fun _ i _ => l.length - (intOf i).toNat)
    case atStart => exact ⟨0, rfl, Nat.zero_le _, rfl, Below.refl _ _, HS⟩
    case round =>
      obtain ⟨k, rfl, hk, rfl, hbw, HR⟩ := hrel
      by_cases hlt : k < l.length
      · have hki : (k : Int) < l.length := by omega
        have HD := Lib.hid (sameL_drop l m k hlt (by omega))
        obtain ⟨ba, oa, rfl, _, a0, a1, a2, a3, a4, a5, a6, a7⟩ := (ha.below hbw).at_ (List.getElem?_eq_getElem hlt)
        obtain ⟨bb, ob, rfl, _, b0, b1, b2, b3, b4, b5, b6, b7⟩ := (hb.below hbw).at_ (List.getElem?_eq_getElem (show k < m.length by omega))
        have hq := run_neI l[k] m[k]
        generalize l[k] = i at *
        generalize m[k] = j at *
        have HE : Hid (r = (eqI i j && sameL (l.drop (k + 1)) (m.drop (k + 1)))) := Lib.hid (by rw [HR.out, HD.out])
        clear HR HD ha hb
        obtain ⟨i0, i1, i2, i3, i4, i5, i6, i7⟩ := i
        obtain ⟨j0, j1, j2, j3, j4, j5, j6, j7⟩ := j
        simp only at a0 a1 a2 a3 a4 a5 a6 a7 b0 b1 b2 b3 b4 b5 b6 b7
        unfold iv at hq
        simp only at hq
        generalize eqI ⟨i0, i1, i2, i3, i4, i5, i6, i7⟩ ⟨j0, j1, j2, j3, j4, j5, j6, j7⟩ = t at *
        cases t with
        | true =>
          have HE2 : Hid (r = sameL (l.drop (k + 1)) (m.drop (k + 1))) := Lib.hid (by rw [HE.out]; simp)
          clear HE
          go_wp2
          go_quiet (fail)
          go_wp2
          go_roundw
          case rel => exact ⟨k + 1, rfl, by omega, by go_num, below_drewN hbw _, HE2⟩
          case measure =>
            show l.length - ((k : Int) + 1).toNat < l.length - (k : Int).toNat
            omega
        | false =>
          have HE2 : Hid (r = false) := Lib.hid (by rw [HE.out]; simp)
          clear HE
          go_wp2
          go_quiet (fail)
          go_wp2
          go_ret
          exact ⟨by rw [HE2.out]; rfl, below_drewN hbw _⟩
      · have hki : ¬ (k : Int) < l.length := by omega
        have HE2 : Hid (r = true) := Lib.hid (by rw [HR.out, List.drop_of_length_le (by omega), List.drop_of_length_le (by omega)]; rfl)
        go_wp2
        go_ret
        exact ⟨by rw [HE2.out]; rfl, hbw⟩

/-- Two boxes, for a program each. -/
theorem two_boxes (w : World) (t : TypeId) (xs ys : Array Value) : Below w.heap.size w ((w.alloc (.cells xs t)).alloc (.cells ys t)) ∧ Bk ((w.alloc (.cells xs t)).alloc (.cells ys t)) w.heap.size t xs ∧ Bk ((w.alloc (.cells xs t)).alloc (.cells ys t)) (w.heap.size + 1) t ys := by
  have h := Bk.made (w.alloc (.cells xs t)) t ys
  rw [World.size_alloc] at h
  exact ⟨((Below.refl _ _).alloc (Nat.le_refl _) _).alloc (by simp) _, (Bk.made w t xs).alloc _, h⟩

set_option maxHeartbeats 1000000 in
theorem cSame (c d : Prg) (v u : Value) (w : World) (hv : Pv w v c) (hu : Pv w u d) (hl : c.l.length ≤ 100000) :
    Calls Tryz.prog 15 #[v, u] w fun e w' => e = .returned (.bool (sameP c d)) ∧ Below w.heap.size w w' := by
  obtain ⟨a, ca, rfl, _, _, _, ha⟩ := hv
  obtain ⟨b, cb, rfl, _, _, _, hb⟩ := hu
  have HE : Hid (sameP c d = (decide (c.lo = d.lo) && (decide (c.un = d.un) && sameL c.l d.l))) := Lib.hid rfl
  obtain ⟨bb, k1, k2⟩ := two_boxes w 25 #[.slice a c.l.length ca, .int .i64 c.lo, .int .i64 c.un] #[.slice b d.l.length cb, .int .i64 d.lo, .int .i64 d.un]
  have HL := Lib.hid (lEqual c.l d.l a b ca cb _ (ha.below bb) (hb.below bb) hl)
  generalize sameP c d = r at *
  obtain ⟨l, lo, un⟩ := c
  obtain ⟨m, lo2, un2⟩ := d
  simp only at HE HL bb k1 k2 ⊢
  clear ha hb
  go_enter Tryz.func15, Tryz.ntmps15
  go_upto_region 1 with fail
  generalize (w.alloc (.cells #[.slice a l.length ca, .int .i64 lo, .int .i64 un] 25)).alloc (.cells #[.slice b m.length cb, .int .i64 lo2, .int .i64 un2] 25) = x at *
  generalize sameL l m = sl at *
  obtain ⟨x0, x1, x2⟩ : x.cell? ⟨w.heap.size, 0, none⟩ = some (.slice a l.length ca) ∧ x.cell? ⟨w.heap.size, 1, none⟩ = some (.int .i64 lo) ∧ x.cell? ⟨w.heap.size, 2, none⟩ = some (.int .i64 un) := ⟨k1.cell 0, k1.cell 1, k1.cell 2⟩
  obtain ⟨y0, y1, y2⟩ : x.cell? ⟨w.heap.size + 1, 0, none⟩ = some (.slice b m.length cb) ∧ x.cell? ⟨w.heap.size + 1, 1, none⟩ = some (.int .i64 lo2) ∧ x.cell? ⟨w.heap.size + 1, 2, none⟩ = some (.int .i64 un2) := ⟨k2.cell 0, k2.cell 1, k2.cell 2⟩
  by_cases h1 : lo = lo2
  · subst h1
    by_cases h2 : un = un2
    · subst h2
      go_wp2_with fail
      refine HL.out.mono ?_
      rintro e z ⟨rfl, hz⟩
      go_wp2
      go_ret
      exact ⟨by rw [HE.out]; simp, bb.trans (hz.mono bb.size)⟩
    · have e2 : (un == un2) = false := by simpa using h2
      have H2 := Lib.hid h2
      clear h2
      go_wp2
      go_ret
      exact ⟨by rw [HE.out]; simp [H2.out], bb⟩
  · have e1 : (lo == lo2) = false := by simpa using h1
    have H1 := Lib.hid h1
    clear h1
    go_wp2
    go_ret
    exact ⟨by rw [HE.out]; simp [H1.out], bb⟩

set_option maxHeartbeats 1000000 in
theorem rSame (c d : Prg) (v u : Value) (w : World) (hv : Pv w v c) (hu : Pv w u d) (hl : c.l.length ≤ 100000) :
    Calls Tryz.prog 9 #[v, u] w fun e w' => e = .returned (.bool (sameP c d)) ∧ Below w.heap.size w w' := by
  obtain ⟨a, ca, rfl, _, _, _, ha⟩ := hv
  obtain ⟨b, cb, rfl, _, _, _, hb⟩ := hu
  have HE : Hid (sameP c d = (decide (c.lo = d.lo) && (decide (c.un = d.un) && sameL c.l d.l))) := Lib.hid rfl
  obtain ⟨bb, k1, k2⟩ := two_boxes w 31 #[.slice a c.l.length ca, .int .i64 c.lo, .int .i64 c.un] #[.slice b d.l.length cb, .int .i64 d.lo, .int .i64 d.un]
  replace ha := ha.below bb
  replace hb := hb.below bb
  generalize sameP c d = r at *
  obtain ⟨l, lo, un⟩ := c
  obtain ⟨m, lo2, un2⟩ := d
  simp only at HE bb k1 k2 ha hb hl ⊢
  go_enter Tryz.func9, Tryz.ntmps9
  go_upto_region 1 with fail
  generalize (w.alloc (.cells #[.slice a l.length ca, .int .i64 lo, .int .i64 un] 31)).alloc (.cells #[.slice b m.length cb, .int .i64 lo2, .int .i64 un2] 31) = x at *
  obtain ⟨x0, x1, x2⟩ : x.cell? ⟨w.heap.size, 0, none⟩ = some (.slice a l.length ca) ∧ x.cell? ⟨w.heap.size, 1, none⟩ = some (.int .i64 lo) ∧ x.cell? ⟨w.heap.size, 2, none⟩ = some (.int .i64 un) := ⟨k1.cell 0, k1.cell 1, k1.cell 2⟩
  obtain ⟨y0, y1, y2⟩ : x.cell? ⟨w.heap.size + 1, 0, none⟩ = some (.slice b m.length cb) ∧ x.cell? ⟨w.heap.size + 1, 1, none⟩ = some (.int .i64 lo2) ∧ x.cell? ⟨w.heap.size + 1, 2, none⟩ = some (.int .i64 un2) := ⟨k2.cell 0, k2.cell 1, k2.cell 2⟩
  by_cases hlm : l.length = m.length
  case neg =>
    have hne : ((l.length : Int) != m.length) = true := by simp; omega
    have HS := Lib.hid (sameL_len hlm)
    clear hlm
    go_wp2
    go_ret
    exact ⟨by rw [HE.out, HS.out]; simp, bb⟩
  case pos =>
    have hne : ((l.length : Int) != m.length) = false := by simp; omega
    by_cases h1 : lo = lo2
    case neg =>
      have e1 : (lo != lo2) = true := by simpa using h1
      have H1 := Lib.hid h1
      clear h1
      go_wp2
      go_ret
      exact ⟨by rw [HE.out]; simp [H1.out], bb⟩
    case pos =>
      by_cases h2 : un = un2
      case neg =>
        have e1 : (lo != lo2) = false := by simpa using h1
        have e2 : (un != un2) = true := by simpa using h2
        have H2 := Lib.hid h2
        clear h2 h1
        go_wp2
        go_ret
        exact ⟨by rw [HE.out]; simp [H2.out], bb⟩
      case pos =>
        have HS : Hid (r = sameL (l.drop 0) (m.drop 0)) := Lib.hid (by rw [HE.out]; simp [h1, h2])
        have e1 : (lo != lo2) = false := by simpa using h1
        have e2 : (un != un2) = false := by simpa using h2
        clear HE h1 h2
        go_wp2
        go_loopw [4, 30] (fun q i wr => ∃ k : Nat, q = .bool false ∧ k ≤ l.length ∧ i = .int .i64 k ∧ Below x.heap.size x wr ∧ Hid (r = sameL (l.drop k) (m.drop k))) (fun _ i _ => l.length - (intOf i).toNat)
        case atStart => exact ⟨0, rfl, Nat.zero_le _, rfl, Below.refl _ _, HS⟩
        case round =>
          obtain ⟨k, rfl, hk, rfl, hbw, HR⟩ := hrel
          have z0 : wr.cell? ⟨w.heap.size, 0, none⟩ = some (.slice a l.length ca) := (hbw.cell (p := ⟨w.heap.size, 0, none⟩) k1.lt).trans x0
          have z1 : wr.cell? ⟨w.heap.size + 1, 0, none⟩ = some (.slice b m.length cb) := (hbw.cell (p := ⟨w.heap.size + 1, 0, none⟩) k2.lt).trans y0
          by_cases hlt : k < l.length
          · have hki : (k : Int) < l.length := by omega
            have hkj : (k : Int) < m.length := by omega
            have HD := Lib.hid (sameL_drop l m k hlt (by omega))
            obtain ⟨ba, oa, rfl, _, a0, a1, a2, a3, a4, a5, a6, a7⟩ := (ha.below hbw).at_ (List.getElem?_eq_getElem hlt)
            obtain ⟨bb2, ob, rfl, _, b0, b1, b2, b3, b4, b5, b6, b7⟩ := (hb.below hbw).at_ (List.getElem?_eq_getElem (show k < m.length by omega))
            have hq := run_neJ l[k] m[k]
            generalize l[k] = i at *
            generalize m[k] = j at *
            have HE : Hid (r = (eqI i j && sameL (l.drop (k + 1)) (m.drop (k + 1)))) := Lib.hid (by rw [HR.out, HD.out])
            clear HR HD ha hb x0 x1 x2 y0 y1 y2
            obtain ⟨i0, i1, i2, i3, i4, i5, i6, i7⟩ := i
            obtain ⟨j0, j1, j2, j3, j4, j5, j6, j7⟩ := j
            simp only at a0 a1 a2 a3 a4 a5 a6 a7 b0 b1 b2 b3 b4 b5 b6 b7
            unfold iv at hq
            simp only at hq
            generalize eqI ⟨i0, i1, i2, i3, i4, i5, i6, i7⟩ ⟨j0, j1, j2, j3, j4, j5, j6, j7⟩ = t at *
            have hend := bb.trans (hbw.mono bb.size)
            cases t with
            | true =>
              have HE2 : Hid (r = sameL (l.drop (k + 1)) (m.drop (k + 1))) := Lib.hid (by rw [HE.out]; simp)
              clear HE
              go_wp2
              go_quiet (fail)
              go_wp2
              go_roundw
              case rel => exact ⟨k + 1, rfl, by omega, by go_num, below_drewN hbw _, HE2⟩
              case measure =>
                show l.length - ((k : Int) + 1).toNat < l.length - (k : Int).toNat
                omega
            | false =>
              have HE2 : Hid (r = false) := Lib.hid (by rw [HE.out]; simp)
              clear HE
              go_wp2
              go_quiet (fail)
              go_wp2
              go_ret
              exact ⟨by rw [HE2.out]; rfl, below_drewN hend _⟩
          · have hki : ¬ (k : Int) < l.length := by omega
            have HE2 : Hid (r = true) := Lib.hid (by rw [HR.out, List.drop_of_length_le (by omega), List.drop_of_length_le (by omega)]; rfl)
            go_wp2
            go_ret
            exact ⟨by rw [HE2.out]; rfl, bb.trans (hbw.mono bb.size)⟩
end Go.Proofs.YteohnkilchkhkaaGreatDoor
