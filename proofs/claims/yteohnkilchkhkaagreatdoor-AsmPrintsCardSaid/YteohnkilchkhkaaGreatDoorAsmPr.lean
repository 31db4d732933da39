/- The document's Print. -/
import Derived.Test.YteohnkilchkhkaaGreatDoorAsmZ
import Derived.Test.YteohnkilchkhkaaGreatDoorAsmU
import Derived.Test.YteohnkilchkhkaaGreatDoorAsmX
import Derived.Deep.DeepCutAuto
import Derived.Deep.LoopGhost
namespace Go.Proofs.YteohnkilchkhkaaGreatDoor
open Go.ChangeShapes Go.WideShapes Go.ChangeAt Go.RowKit Go.Shelf
set_option linter.unusedVariables false

theorem any_take (l : List Ins) (f : Ins → Bool) (j : Nat) (h : j < l.length) : (l.take (j + 1)).any f = ((l.take j).any f || f l[j]) := by
  have e : l.take (j + 1) = l.take j ++ [l[j]] := by simp
  rw [e, List.any_append]
  simp
/-- The labels ahead of a place: three parts. -/
def lab1 (k lo : Int) : List UInt8 := if k = lo then [108, 111, 99, 107, 58, 10] else []
def lab2 (k un : Int) : List UInt8 := if k = un then [117, 110, 108, 111, 99, 107, 58, 10] else []
def lab3 (k lo un : Int) (wb : Bool) (lb : List UInt8) : List UInt8 := if wb = true ∧ k ≠ lo ∧ k ≠ un then lb ++ [58, 10] else []
theorem labsTx_is (c : Prg) (k : Int) : labsTx c k = lab1 k c.lo ++ (lab2 k c.un ++ lab3 k c.lo c.un (wantB c k) (labelL c k)) := by
  unfold labsTx labsAt lab1 lab2 lab3
  rw [List.flatMap_append, List.flatMap_append]
  congr 1
  · split <;> rfl
  · congr 1
    · split <;> rfl
    · split <;> simp

set_option maxHeartbeats 4000000 in
set_option maxRecDepth 100000 in
theorem rPrint (c : Prg) (v : Value) (w : World) (hv : Pv w v c) (hw : ∀ i ∈ c.l, i.Wf) (hpr : prgB c = true) :
    Calls Tryz.prog 14 #[v] w fun e w' => e = .returned (bs (printL c)) ∧ Below w.heap.size w w' := by
  have hv2 := hv
  have HV := Lib.hid (fun W (hW : Below w.heap.size w W) => hv2.below hW)
  obtain ⟨a, ca, rfl, hc1, hc2, _, hsl⟩ := hv
  have HSL := Lib.hid (fun W (hW : Below w.heap.size w W) => hsl.below hW)
  clear hsl hv2
  have k1 := Bk.made w 31 #[.slice a c.l.length ca, .int .i64 c.lo, .int .i64 c.un]
  have b0 : Below w.heap.size w (w.alloc (.cells #[.slice a c.l.length ca, .int .i64 c.lo, .int .i64 c.un] 31)) := (Below.refl _ _).alloc (Nat.le_refl _) _
  obtain ⟨hl64, hri⟩ := prg_facts hpr
  have hpl : ∀ i ∈ c.l, goesB i = true → 0 ≤ i.pl ∧ i.pl < 1000000 := fun i hi hg => by
    have := goes_pl (hri i hi) hg
    omega
  have HLB := Lib.hid (fun (k : Int) (h0 : 0 ≤ k) (h1 : k < 1000000) W (hW : Below w.heap.size w W) => rLabel c _ W (HV.out W hW) k h0 h1)
  have HT := Lib.hid (fun (i : Ins) (hi : i ∈ c.l) W => rTextAll i (right_more (by omega) (hri i hi)) (hw i hi).k0 (hw i hi).k1 W)
  have HG := Lib.hid rGoes
  have HWd := Lib.hid rWords
  have HS := Lib.hid (fun k h => txF_step c k h)
  have HM := Lib.hid (fun i hi => insLine_len c i (hw i hi) (hpl i hi))
  have HTL := Lib.hid (fun i hi => text_len i (hw i hi))
  have HPL := Lib.hid hpl
  have HE : Hid (txF c c.l.length = printL c) := Lib.hid (by unfold txF printL; rw [List.take_length])
  generalize printL c = r at *
  clear hri hpl hw hpr
  go_enter Tryz.func14, Tryz.ntmps14
  go_upto_region 1 with fail
  generalize w.alloc (.cells #[.slice a c.l.length ca, .int .i64 c.lo, .int .i64 c.un] 31) = x at *
  obtain ⟨x0, x1, x2⟩ : x.cell? ⟨w.heap.size, 0, none⟩ = some (.slice a c.l.length ca) ∧ x.cell? ⟨w.heap.size, 1, none⟩ = some (.int .i64 c.lo) ∧ x.cell? ⟨w.heap.size, 2, none⟩ = some (.int .i64 c.un) := ⟨k1.cell 0, k1.cell 1, k1.cell 2⟩
  have hfx := k1.lt
  go_wp2
  go_loopg [3, 14] c.l.length (fun gk o q wr => ∃ (k : Nat) (out : List UInt8), o = .string ⟨out.toArray⟩ ∧ q = .int .i64 k ∧ k + gk = c.l.length ∧ Below x.heap.size x wr ∧ out.length ≤ k * 1000 ∧ Hid (out = txF c k))
  case atStart => exact ⟨0, [], rfl, rfl, by omega, Below.refl _ _, Nat.zero_le _, Lib.hid rfl⟩
  case round =>
    obtain ⟨k, out, rfl, rfl, hk, hb, hol, HO⟩ := hrel
    have hbw := b0.trans (hb.mono b0.size)
    by_cases hlt : k < c.l.length
    · have hki : (k : Int) < c.l.length := by omega
      have hge := List.getElem?_eq_getElem hlt
      obtain ⟨g, off, rfl, hgl, e0, e1, e2, e3, e4, e5, e6, e7⟩ := (HSL.out wr hbw).at_ hge
      have hmem : c.l[k] ∈ c.l := List.getElem_mem hlt
      have HT2 := Lib.hid (HT.out _ hmem)
      have HS2 := Lib.hid (HS.out k hlt)
      have HM2 := Lib.hid (HM.out _ hmem)
      have HTL2 := Lib.hid (HTL.out _ hmem)
      have HPL2 := Lib.hid (HPL.out _ hmem)
      clear hge hmem
      generalize c.l[k] = i at *
      obtain ⟨op, d, s, t, u, a', k', pl⟩ := i
      unfold iv at HT2
      simp only at e0 e1 e2 e3 e4 e5 e6 e7 HT2
      go_upto_region 5 with fail
      have m2 := Jb.made wr op d s t u a' k' pl
      replace hb := hb.alloc (o := .cells #[.int .i64 op, .int .i64 d, .int .i64 s, .int .i64 t, .int .i64 u, .int .i64 a', .int .u32 k', .int .i64 pl] 62) hb.size
      clear e0 e1 e2 e3 e4 e5 e6 e7 hbw
      generalize wr.heap.size = q5 at *
      generalize wr.alloc (.cells #[.int .i64 op, .int .i64 d, .int .i64 s, .int .i64 t, .int .i64 u, .int .i64 a', .int .u32 k', .int .i64 pl] 62) = z at *
      replace x0 : z.cell? ⟨w.heap.size, 0, none⟩ = some (.slice (some ⟨g, off, none⟩) c.l.length ca) := (hb.cell (p := ⟨w.heap.size, 0, none⟩) hfx).trans x0
      go_upto_block 2 with fail
      go_cut [6] (fun v6 wx => ∃ wb : Bool, v6 = .bool wb ∧ Below z.heap.size z wx ∧ Hid (wb = wantB c k))
      case first =>
        go_wp2
        go_loopg [6, 22] c.l.length (fun gk wv q WW => ∃ (j : Nat) (wb : Bool), wv = .bool wb ∧ q = .int .i64 j ∧ j + gk = c.l.length ∧ Below z.heap.size z WW ∧ Hid (wb = (c.l.take j).any fun x => goesB x && decide (x.pl = (k : Int))))
        case atStart => exact ⟨0, false, rfl, rfl, by omega, Below.refl _ _, Lib.hid (by simp)⟩
        case round =>
          obtain ⟨j, wb, rfl, rfl, hj, hbz, HW⟩ := hrel
          by_cases hjl : j < c.l.length
          · have hji : (j : Int) < c.l.length := by omega
            have hge := List.getElem?_eq_getElem hjl
            have hbW := b0.trans ((hb.trans (hbz.mono hb.size)).mono b0.size)
            obtain ⟨g2, off2, hgg, hgl2, e0, e1, e2, e3, e4, e5, e6, e7⟩ := (HSL.out wr hbW).at_ hge
            obtain ⟨rfl, rfl⟩ : g = g2 ∧ off = off2 := by injection hgg with hgg; injection hgg with h1 h2; exact ⟨h1, h2⟩
            have HA := Lib.hid (any_take c.l (fun x => goesB x && decide (x.pl = (k : Int))) j hjl)
            clear hge hgg
            generalize c.l[j] = i2 at *
            obtain ⟨op2, d2, s2, t2, u2, a2, k2, pl2⟩ := i2
            simp only at e0 e1 e2 e3 e4 e5 e6 e7 HA
            go_upto_region 9 with fail
            have m3 := Jb.made wr op2 d2 s2 t2 u2 a2 k2 pl2
            replace hbz := hbz.alloc (o := .cells #[.int .i64 op2, .int .i64 d2, .int .i64 s2, .int .i64 t2, .int .i64 u2, .int .i64 a2, .int .u32 k2, .int .i64 pl2] 62) hbz.size
            clear e0 e1 e2 e3 e4 e5 e6 e7 hbW hgl2
            generalize wr.heap.size = q8 at *
            generalize wr.alloc (.cells #[.int .i64 op2, .int .i64 d2, .int .i64 s2, .int .i64 t2, .int .i64 u2, .int .i64 a2, .int .u32 k2, .int .i64 pl2] 62) = y at *
            obtain ⟨c0, c1, c2, c3, c4, c5, c6, c7⟩ := m3.cells
            simp only at c0 c1 c2 c3 c4 c5 c6 c7
            cases wb with
            | true =>
              have HW2 : Hid (true = (c.l.take (j + 1)).any fun x => goesB x && decide (x.pl = (k : Int))) := Lib.hid (by rw [HA.out, ← HW.out]; simp)
              clear HW HA
              go_wp2
              go_roundg (gk - 1)
              case rel => exact ⟨j + 1, true, rfl, by go_num, by omega, hbz, HW2⟩
              case measure => omega
            | false =>
              rw [← HW.out, Bool.false_or] at HA
              clear HW
              go_wp2_with fail
              refine (HG.out ⟨op2, d2, s2, t2, u2, a2, k2, pl2⟩ y).mono ?_
              rintro e y2 ⟨rfl, hy⟩
              replace m3 := m3.below hy
              replace hbz := hbz.trans (hy.mono hbz.size)
              clear c0 c1 c2 c3 c4 c5 c6 c7
              obtain ⟨c0, c1, c2, c3, c4, c5, c6, c7⟩ := m3.cells
              simp only at c0 c1 c2 c3 c4 c5 c6 c7
              cases hq : goesB ⟨op2, d2, s2, t2, u2, a2, k2, pl2⟩ with
              | false =>
                have HW2 : Hid (false = (c.l.take (j + 1)).any fun x => goesB x && decide (x.pl = (k : Int))) := Lib.hid (by rw [HA.out, hq]; simp)
                clear HA hq
                go_wp2
                go_roundg (gk - 1)
                case rel => exact ⟨j + 1, false, rfl, by go_num, by omega, hbz, HW2⟩
                case measure => omega
              | true =>
                by_cases hp : pl2 = (k : Int)
                · have HW2 : Hid (true = (c.l.take (j + 1)).any fun x => goesB x && decide (x.pl = (k : Int))) := Lib.hid (by rw [HA.out, hq]; simp [hp])
                  subst hp
                  clear HA hq
                  go_wp2
                  go_roundg (gk - 1)
                  case rel => exact ⟨j + 1, true, rfl, by go_num, by omega, hbz, HW2⟩
                  case measure => omega
                · have HW2 : Hid (false = (c.l.take (j + 1)).any fun x => goesB x && decide (x.pl = (k : Int))) := Lib.hid (by rw [HA.out, hq]; simp [hp])
                  have hp2 : (pl2 == (k : Int)) = false := by simpa using hp
                  clear HA hq hp
                  go_wp2
                  go_roundg (gk - 1)
                  case rel => exact ⟨j + 1, false, rfl, by go_num, by omega, hbz, HW2⟩
                  case measure => omega
          · have hji : ¬ (j : Int) < c.l.length := by omega
            obtain rfl : j = c.l.length := by omega
            rw [List.take_length] at HW
            go_wp2
            go_meet
            case rel => exact ⟨wb, rfl, hbz, Lib.hid HW.out⟩
      case rest =>
        obtain ⟨wb, rfl, hbz, HW⟩ := hcut
        replace hb := hb.trans (hbz.mono hb.size)
        replace m2 := m2.below hbz
        have kz : Bk wc _ _ _ := (hb.block _ hfx).trans k1
        clear x0 x1 x2 hbz
        generalize wc = y at *
        obtain ⟨x0, x1, x2⟩ : y.cell? ⟨w.heap.size, 0, none⟩ = some (.slice (some ⟨g, off, none⟩) c.l.length ca) ∧ y.cell? ⟨w.heap.size, 1, none⟩ = some (.int .i64 c.lo) ∧ y.cell? ⟨w.heap.size, 2, none⟩ = some (.int .i64 c.un) := ⟨kz.cell 0, kz.cell 1, kz.cell 2⟩
        have HX := Lib.hid (labsTx_is c k)
        rw [← HW.out] at HX
        have HLk := Lib.hid (HLB.out (k : Int) (by omega) (by omega))
        have hll := label_len c (p := (k : Int)) (by omega) (by omega)
        generalize labsTx c k = lt at *
        generalize labelL c (k : Int) = lb at *
        clear HW
        go_upto_if 41 with fail
        go_cut [3] (fun v3 wx => y = wx ∧ ∃ o : List UInt8, v3 = .string ⟨o.toArray⟩ ∧ o.length ≤ out.length + 6 ∧ Hid (o = out ++ lab1 k c.lo))
        case first =>
          generalize c.lo = lo at *
          by_cases h1 : (k : Int) = lo
          · have HQ : Hid (lab1 k lo = [108, 111, 99, 107, 58, 10]) := Lib.hid (if_pos h1)
            have q1 := cat_bs out [108, 111, 99, 107, 58, 10]
            have n1 : ¬ 9223372036854775807 < out.length + 6 := by omega
            have e1 : ((k : Int) == lo) = true := by simpa using h1
            clear h1
            go_wp2
            go_meet
            case rel => exact ⟨rfl, _, rfl, by simp, Lib.hid (by rw [HQ.out])⟩
          · have HQ : Hid (lab1 k lo = []) := Lib.hid (if_neg h1)
            have e1 : ((k : Int) == lo) = false := by simpa using h1
            clear h1
            go_wp2
            go_meet
            case rel => exact ⟨rfl, _, rfl, by simp, Lib.hid (by rw [HQ.out]; simp)⟩
        case rest =>
          obtain ⟨rfl, o1, rfl, ho1, HO1⟩ := hcut
          go_upto_if 47 with fail
          go_cut [3] (fun v3 wx => y = wx ∧ ∃ o : List UInt8, v3 = .string ⟨o.toArray⟩ ∧ o.length ≤ o1.length + 8 ∧ Hid (o = o1 ++ lab2 k c.un))
          case first =>
            generalize c.un = un at *
            by_cases h1 : (k : Int) = un
            · have HQ : Hid (lab2 k un = [117, 110, 108, 111, 99, 107, 58, 10]) := Lib.hid (if_pos h1)
              have q1 := cat_bs o1 [117, 110, 108, 111, 99, 107, 58, 10]
              have n1 : ¬ 9223372036854775807 < o1.length + 8 := by omega
              have e1 : ((k : Int) == un) = true := by simpa using h1
              clear h1
              go_wp2
              go_meet
              case rel => exact ⟨rfl, _, rfl, by simp, Lib.hid (by rw [HQ.out])⟩
            · have HQ : Hid (lab2 k un = []) := Lib.hid (if_neg h1)
              have e1 : ((k : Int) == un) = false := by simpa using h1
              clear h1
              go_wp2
              go_meet
              case rel => exact ⟨rfl, _, rfl, by simp, Lib.hid (by rw [HQ.out]; simp)⟩
          case rest =>
            obtain ⟨rfl, o2, rfl, ho2, HO2⟩ := hcut
            have hbw := b0.trans (hb.mono b0.size)
            go_upto_region 15 with fail
            go_cut [62] (fun v62 wx => y = wx ∧ v62 = .bool (decide (wb = true ∧ (k : Int) ≠ c.lo ∧ (k : Int) ≠ c.un)))
            case first =>
              generalize c.lo = lo at *
              generalize c.un = un at *
              cases wb with
              | false =>
                go_wp2
                go_meet
                case rel => exact ⟨rfl, by simp⟩
              | true =>
                by_cases h1 : (k : Int) = lo
                · have e1 : ((k : Int) != lo) = false := by simpa using h1
                  have HF : Hid (decide (true = true ∧ (k : Int) ≠ lo ∧ (k : Int) ≠ un) = false) := Lib.hid (by simp [h1])
                  clear h1
                  go_wp2
                  go_meet
                  case rel => exact ⟨rfl, by rw [HF.out]⟩
                · have e1 : ((k : Int) != lo) = true := by simpa using h1
                  by_cases h2 : (k : Int) = un
                  · have e2 : ((k : Int) != un) = false := by simpa using h2
                    have HF : Hid (decide (true = true ∧ (k : Int) ≠ lo ∧ (k : Int) ≠ un) = false) := Lib.hid (by simp [h2])
                    clear h1 h2
                    go_wp2
                    go_meet
                    case rel => exact ⟨rfl, by rw [HF.out]⟩
                  · have e2 : ((k : Int) != un) = true := by simpa using h2
                    have HF : Hid (decide (true = true ∧ (k : Int) ≠ lo ∧ (k : Int) ≠ un) = true) := Lib.hid (by simp [h1, h2])
                    clear h1 h2
                    go_wp2
                    go_meet
                    case rel => exact ⟨rfl, by rw [HF.out]⟩
            case rest =>
              obtain ⟨rfl, rfl⟩ := hcut
              go_upto_if 62 with fail
              go_cut [3] (fun v3 wx => Below y.heap.size y wx ∧ ∃ o : List UInt8, v3 = .string ⟨o.toArray⟩ ∧ o.length ≤ o2.length + 42 ∧ Hid (o = o2 ++ lab3 k c.lo c.un wb lb))
              case first =>
                cases hd : decide (wb = true ∧ (k : Int) ≠ c.lo ∧ (k : Int) ≠ c.un) with
                | false =>
                  have HQ : Hid (lab3 k c.lo c.un wb lb = []) := Lib.hid (if_neg (by simpa using hd))
                  clear hd
                  go_wp2
                  go_meet
                  case rel => exact ⟨Below.refl _ _, _, rfl, by omega, Lib.hid (by rw [HQ.out]; simp)⟩
                | true =>
                  have HQ : Hid (lab3 k c.lo c.un wb lb = lb ++ [58, 10]) := Lib.hid (if_pos (by simpa using hd))
                  clear hd
                  have q1 := cat_bs lb [58, 10]
                  have n1 : ¬ 9223372036854775807 < lb.length + 2 := by omega
                  have nA : (lb ++ [58, 10]).length = lb.length + 2 := by simp
                  generalize lb ++ [58, 10] = oA at *
                  have q2 := cat_bs o2 oA
                  have n2 : ¬ 9223372036854775807 < o2.length + oA.length := by omega
                  have nB : (o2 ++ oA).length = o2.length + oA.length := by simp
                  have HR : Hid (o2 ++ oA = o2 ++ lab3 k c.lo c.un wb lb) := Lib.hid (by rw [HQ.out])
                  generalize o2 ++ oA = oB at *
                  go_wp2_with fail
                  refine (HLk.out y hbw).mono ?_
                  rintro e W2 ⟨rfl, hW2⟩
                  unfold bs
                  go_wp2
                  go_meet
                  case rel => exact ⟨hW2, _, rfl, by omega, HR⟩
              case rest =>
                obtain ⟨hy, o3, rfl, ho3, HO3⟩ := hcut
                have HR : Hid (o3 = out ++ lt) := Lib.hid (by rw [HO3.out, HO2.out, HO1.out, HX.out]; simp)
                clear HO3 HO2 HO1 HX
                replace hb := hb.trans (hy.mono hb.size)
                replace m2 := m2.below hy
                replace kz : Bk wc _ _ _ := (hy.block _ kz.lt).trans kz
                clear x0 x1 x2 hy hbw
                generalize wc = y at *
                obtain ⟨c0, c1, c2, c3, c4, c5, c6, c7⟩ := m2.cells
                simp only at c0 c1 c2 c3 c4 c5 c6 c7
                go_wp2_with fail
                refine (HT2.out _).mono ?_
                rintro e W3 ⟨rfl, hW3⟩
                replace hb := hb.trans (hW3.mono hb.size)
                replace m2 := m2.below hW3
                replace kz : Bk W3 _ _ _ := (hW3.block _ kz.lt).trans kz
                clear c0 c1 c2 c3 c4 c5 c6 c7 hW3
                obtain ⟨c0, c1, c2, c3, c4, c5, c6, c7⟩ := m2.cells
                simp only at c0 c1 c2 c3 c4 c5 c6 c7
                unfold bs
                go_wp2_with fail
                refine (HG.out ⟨op, d, s, t, u, a', k', pl⟩ W3).mono ?_
                rintro e W4 ⟨rfl, hW4⟩
                replace hb := hb.trans (hW4.mono hb.size)
                replace m2 := m2.below hW4
                replace kz : Bk W4 _ _ _ := (hW4.block _ kz.lt).trans kz
                clear c0 c1 c2 c3 c4 c5 c6 c7 hW4
                have HIL : Hid (insLine c ⟨op, d, s, t, u, a', k', pl⟩ = if goesB ⟨op, d, s, t, u, a', k', pl⟩ = true then headI ⟨op, d, s, t, u, a', k', pl⟩ ++ labelL c pl else textL ⟨op, d, s, t, u, a', k', pl⟩) := Lib.hid rfl
                go_upto_if 72 with fail
                go_cut [9] (fun v9 wx => Below W4.heap.size W4 wx ∧ ∃ tx : List UInt8, v9 = .string ⟨tx.toArray⟩ ∧ Hid (tx = insLine c ⟨op, d, s, t, u, a', k', pl⟩))
                case first =>
                  cases hq : goesB ⟨op, d, s, t, u, a', k', pl⟩ with
                  | false =>
                    have HF : Hid (textL ⟨op, d, s, t, u, a', k', pl⟩ = insLine c ⟨op, d, s, t, u, a', k', pl⟩) := Lib.hid (by rw [HIL.out, hq]; simp)
                    clear hq HIL
                    go_wp2
                    go_meet
                    case rel => exact ⟨Below.refl _ _, _, rfl, HF⟩
                  | true =>
                    obtain ⟨hp0, hp1⟩ := HPL2.out hq
                    replace hp0 : 0 ≤ pl := hp0
                    replace hp1 : pl < 1000000 := hp1
                    have HH := Lib.hid (headW_text ⟨op, d, s, t, u, a', k', pl⟩ hq hp0)
                    have HF : Hid (headI ⟨op, d, s, t, u, a', k', pl⟩ ++ labelL c pl = insLine c ⟨op, d, s, t, u, a', k', pl⟩) := Lib.hid (by rw [HIL.out, hq]; simp)
                    rw [← HH.out] at HF
                    have HL2 := Lib.hid (HLB.out pl hp0 hp1)
                    have hll2 := label_len c (p := pl) hp0 hp1
                    have htl := HTL2.out
                    clear hq HIL HH HPL2 HM2 HT2 HTL2
                    generalize insLine c ⟨op, d, s, t, u, a', k', pl⟩ = fin at *
                    generalize textL ⟨op, d, s, t, u, a', k', pl⟩ = tx at *
                    generalize labelL c pl = lb2 at *
                    have hpos := wordsL_pos tx
                    have hlw : (lastW tx).length ≤ tx.length := by
                      have h := wordsL_le tx
                      unfold lastW
                      rw [← last_at _ hpos, List.getD_eq_getElem?_getD, List.getElem?_eq_getElem (by omega)]
                      exact h _ (List.getElem_mem _)
                    have HLa : Hid ((wordsL tx).getD ((wordsL tx).length - 1) [] = lastW tx) := Lib.hid (last_at _ hpos)
                    have hlen := wordsL_len tx
                    have hcut := fun W => run_ahead tx (tx.length - (lastW tx).length) (by omega) W
                    have hh : tx.take (tx.length - (lastW tx).length) = headW tx := rfl
                    rw [hh] at hcut
                    have e1 : ((tx.length - (lastW tx).length : Nat) : Int) = (tx.length : Int) - (lastW tx).length := by omega
                    simp only [e1] at hcut
                    have hhl : (headW tx).length ≤ tx.length := by unfold headW; simp
                    have q1 := cat_bs (headW tx) lb2
                    have n1 : ¬ 9223372036854775807 < (headW tx).length + lb2.length := by omega
                    have HWt := Lib.hid (fun W => HWd.out tx (by omega) W)
                    clear e1 hh
                    generalize headW tx ++ lb2 = fin2 at *
                    generalize headW tx = hd at *
                    generalize lastW tx = la at *
                    generalize wordsL tx = ws at *
                    unfold bs at HWt
                    go_wp2_with fail
                    refine (HWt.out W4).mono ?_
                    rintro e W5 ⟨v, rfl, hV, b5⟩
                    obtain ⟨gl, cap, rfl, hS⟩ := ws_of hV hpos
                    have m5 := m2.below b5
                    have k5 : Bk W5 _ _ _ := (b5.block _ kz.lt).trans kz
                    have hbw := b0.trans ((hb.trans (b5.mono hb.size)).mono b0.size)
                    clear hV
                    have hc0 := hS.at_ (ws.length - 1) (by omega)
                    rw [HLa.out] at hc0
                    have e2 : ((ws.length - 1 : Nat) : Int) = (ws.length : Int) - 1 := by omega
                    have e3 : ((ws.length : Int) - 1).toNat = ws.length - 1 := by omega
                    have i1 : ¬ (ws.length : Int) - 1 < 0 := by omega
                    have i2 : (ws.length : Int) - 1 < ws.length := by omega
                    go_wp2_with fail
                    have z0 : ∀ y : Grw W5, y.x.cell? ⟨gl, ws.length - 1, none⟩ = some (.string ⟨la.toArray⟩) := fun y => y.cell hc0
                    have z1 : ∀ y : Grw W5, y.x.cell? ⟨w.heap.size, 0, none⟩ = some (.slice (some ⟨g, off, none⟩) c.l.length ca) := fun y => y.cell (k5.cell 0)
                    have z2 : ∀ y : Grw W5, y.x.cell? ⟨w.heap.size, 1, none⟩ = some (.int .i64 c.lo) := fun y => y.cell (k5.cell 1)
                    have z3 : ∀ y : Grw W5, y.x.cell? ⟨w.heap.size, 2, none⟩ = some (.int .i64 c.un) := fun y => y.cell (k5.cell 2)
                    have z4 : ∀ y : Grw W5, y.x.cell? ⟨q5, 7, none⟩ = some (.int .i64 pl) := fun y => y.cell (Jb.cells m5).2.2.2.2.2.2.2
                    have HLg : Hid (∀ y : Grw W5, Calls Tryz.prog 31 #[.agg #[.slice (some ⟨g, off, none⟩) c.l.length ca, .int .i64 c.lo, .int .i64 c.un], .int .i64 pl] y.x fun e w' => e = .returned (.string ⟨lb2.toArray⟩) ∧ Below y.x.heap.size y.x w') := Lib.hid fun y => HL2.out y.x (hbw.trans (y.ok.mono hbw.size))
                    clear hc0 HL2 HLa
                    refine wp_region_grow (by kernel_rfl) (by kernel_rfl) ?_
                    repeat (go_big_quiet_step ((go_at_call 31; with_reducible exact grw_call (HLg.out _))))
                    refine wpQuiet_nil ?_
                    rintro Y ⟨⟨_, hY⟩, rfl⟩
                    clear z0 z1 z2 z3 z4
                    go_wp2
                    go_meet
                    case rel => exact ⟨b5.trans (hY.mono b5.size), _, rfl, HF⟩
                case rest =>
                  obtain ⟨hy, tx, rfl, HF⟩ := hcut
                  have hml := HM2.out
                  rw [← HF.out] at hml HS2
                  have HR2 : Hid (o3 ++ (tx ++ [10]) = txF c (k + 1)) := Lib.hid (by rw [HS2.out, HR.out, ← HO.out]; simp)
                  replace hb := hb.trans (hy.mono hb.size)
                  clear HF HS2 HR HIL HPL2 HM2 HT2
                  have p1 := cat_bs tx [10]
                  have p2 : ¬ 9223372036854775807 < tx.length + 1 := by omega
                  have p3 : (tx ++ [10]).length = tx.length + 1 := by simp
                  generalize tx ++ [10] = t1 at *
                  have p4 := cat_bs o3 t1
                  have p5 : ¬ 9223372036854775807 < o3.length + t1.length := by omega
                  have p6 : (o3 ++ t1).length = o3.length + t1.length := by simp
                  generalize o3 ++ t1 = o4 at *
                  go_wp2
                  go_roundg (gk - 1)
                  case rel => exact ⟨k + 1, o4, rfl, by go_num, by omega, hb, by omega, HR2⟩
                  case measure => omega
    · have hki : ¬ (k : Int) < c.l.length := by omega
      obtain rfl : k = c.l.length := by omega
      rw [HE.out] at HO
      go_wp2
      go_ret
      exact ⟨by rw [← HO.out]; rfl, hbw⟩
end Go.Proofs.YteohnkilchkhkaaGreatDoor
