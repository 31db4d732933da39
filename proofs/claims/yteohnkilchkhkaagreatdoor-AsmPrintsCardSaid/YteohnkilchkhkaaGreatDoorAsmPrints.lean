/- For any program: AsmPrints returns true: it is right or not, and has its own text, as the document says; assembled that is the program (beyond 80 instructions the fixed example alone); no condition. A tied card: the listed variables of the library are tied to the program's text. -/
import Derived.Test.YteohnkilchkhkaaGreatDoorAsmPr
import Derived.Test.YteohnkilchkhkaaGreatDoorAsmF
import Derived.Test.YteohnkilchkhkaaGreatDoorAsmV
import Derived.Test.YteohnkilchkhkaaGreatDoorRefP
import Derived.Test.YteohnkilchkhkaaGreatDoorOpenP
import Derived.Test.YteohnkilchkhkaaGreatDoorAsmK
import Derived.Test.YteohnkilchkhkaaGreatDoorRow
namespace Go.Proofs.YteohnkilchkhkaaGreatDoor.asmPrints
open Go.ChangeShapes Go.WideShapes Go.ChangeAt Go.RowKit
set_option linter.unusedVariables false

set_option maxHeartbeats 2000000 in
set_option maxRecDepth 100000 in
theorem walk (c : Prg) (v : Value) (wf : PrgWf c) (w : World) (hv : Pv w v c) (L : Lb w) :
    Calls Tryz.prog 4 #[v] w fun e w' => e = .returned (.bool true) ∧ Below w.heap.size w w' := by
  have HV := Lib.hid (fun W (hW : Below w.heap.size w W) => hv.below hW)
  have HP := Lib.hid (fun W (hW : Below w.heap.size w W) => cAsmPrint c v W (HV.out W hW) wf.ins (L.below hW))
  have HLB := Lib.hid (fun W (hW : Below w.heap.size w W) => L.below hW)
  have HX : Hid (printV c = if prgB c = true then .tuple #[bs (printL c), .int .i64 0] else .tuple #[bs [], .int .i64 1]) := Lib.hid rfl
  have HWA := Lib.hid (fun W (hW : Below w.heap.size w W) => lAwake W (L.below hW))
  have HRf := Lib.hid (fun W (hW : Below w.heap.size w W) (hl : c.l.length ≤ 1000) => lRef c v W (HV.out W hW) hl)
  have HRp := Lib.hid (fun u W (hu : Pv W u c) => rRightP c u W hu wf.ins)
  have HRt := Lib.hid (fun W (hW : Below w.heap.size w W) => cAsmRight c v W (HV.out W hW) wf.ins)
  obtain ⟨a, ca, rfl, hc1, hc2, _, hsl⟩ := hv
  have k1 := Bk.made w 25 #[.slice a c.l.length ca, .int .i64 c.lo, .int .i64 c.un]
  have b0 : Below w.heap.size w (w.alloc (.cells #[.slice a c.l.length ca, .int .i64 c.lo, .int .i64 c.un] 25)) := (Below.refl _ _).alloc (Nat.le_refl _) _
  clear hsl L
  go_enter Tryz.func4, Tryz.ntmps4
  go_upto_region 1 with fail
  generalize w.alloc (.cells #[.slice a c.l.length ca, .int .i64 c.lo, .int .i64 c.un] 25) = x at *
  obtain ⟨x0, x1, x2⟩ : x.cell? ⟨w.heap.size, 0, none⟩ = some (.slice a c.l.length ca) ∧ x.cell? ⟨w.heap.size, 1, none⟩ = some (.int .i64 c.lo) ∧ x.cell? ⟨w.heap.size, 2, none⟩ = some (.int .i64 c.un) := ⟨k1.cell 0, k1.cell 1, k1.cell 2⟩
  by_cases h80 : 80 < c.l.length
  · have h81 : (80 : Int) < c.l.length := by omega
    go_wp2_with fail
    refine (HWA.out x b0).mono ?_
    rintro e z ⟨rfl, hz⟩
    go_wp2
    go_ret
    exact ⟨rfl, b0.trans (hz.mono b0.size)⟩
  have h81 : ¬ (80 : Int) < c.l.length := by omega
  go_wp2_with fail
  refine (HP.out x b0).mono ?_
  rintro e y ⟨rfl, hy⟩
  replace k1 : Bk y _ _ _ := (hy.block _ k1.lt).trans k1
  replace b0 := b0.trans (hy.mono b0.size)
  clear x0 x1 x2 hy HP x
  obtain ⟨x0, x1, x2⟩ : y.cell? ⟨w.heap.size, 0, none⟩ = some (.slice a c.l.length ca) ∧ y.cell? ⟨w.heap.size, 1, none⟩ = some (.int .i64 c.lo) ∧ y.cell? ⟨w.heap.size, 2, none⟩ = some (.int .i64 c.un) := ⟨k1.cell 0, k1.cell 1, k1.cell 2⟩
  have HRf1 := Lib.hid (HRf.out y b0 (by omega))
  cases hpr : prgB c with
  | false =>
    have e0 : printV c = .tuple #[bs [], .int .i64 1] := by rw [HX.out, hpr]; simp
    rw [e0]
    unfold bs
    rw [hpr] at HRp HRt
    clear HX hpr e0
    go_wp2_with fail
    refine HRf1.out.mono ?_
    rintro e y1 ⟨v1, rfl, hP1, hy1⟩
    replace k1 : Bk y1 _ _ _ := (hy1.block _ k1.lt).trans k1
    replace b0 := b0.trans (hy1.mono b0.size)
    clear x0 x1 x2 hy1 HRf1
    have HRp1 := Lib.hid (HRp.out v1 y1 hP1)
    go_wp2_with fail
    refine HRp1.out.mono ?_
    rintro e y2 ⟨rfl, hy2⟩
    replace k1 : Bk y2 _ _ _ := (hy2.block _ k1.lt).trans k1
    replace b0 := b0.trans (hy2.mono b0.size)
    clear HRp1 HRp hP1 hy2
    obtain ⟨x0, x1, x2⟩ : y2.cell? ⟨w.heap.size, 0, none⟩ = some (.slice a c.l.length ca) ∧ y2.cell? ⟨w.heap.size, 1, none⟩ = some (.int .i64 c.lo) ∧ y2.cell? ⟨w.heap.size, 2, none⟩ = some (.int .i64 c.un) := ⟨k1.cell 0, k1.cell 1, k1.cell 2⟩
    have HRt1 := Lib.hid (HRt.out y2 b0)
    go_wp2_with fail
    refine HRt1.out.mono ?_
    rintro e y3 ⟨rfl, hy3⟩
    replace b0 := b0.trans (hy3.mono b0.size)
    go_wp2_with fail
    refine (HWA.out y3 b0).mono ?_
    rintro e y4 ⟨rfl, hy4⟩
    go_wp2
    go_ret
    exact ⟨rfl, b0.trans (hy4.mono b0.size)⟩
  | true =>
    have e0 : printV c = .tuple #[bs (printL c), .int .i64 0] := by rw [HX.out, hpr]; simp
    have hpl := print_len c hpr wf.ins
    have HA := Lib.hid (fun W (hW : Below w.heap.size w W) => cAssemble (printL c) (by omega) W (HLB.out W hW))
    unfold Asmd at HA
    rw [asm_print c hpr fun i hi => ⟨(wf.ins i hi).k0, (wf.ins i hi).k1⟩] at HA
    simp only at HA
    have HPr := Lib.hid (fun u W (hu : Pv W u c) => rPrint c u W hu wf.ins hpr)
    have hcl : c.l.length ≤ 64 := (prg_facts hpr).1
    rw [e0]
    rw [hpr] at HRp HRt
    unfold bs at HA HPr ⊢
    clear HX hpr e0
    generalize printL c = pr at *
    go_wp2_with fail
    refine HRf1.out.mono ?_
    rintro e y1 ⟨v1, rfl, hP1, hy1⟩
    replace k1 : Bk y1 _ _ _ := (hy1.block _ k1.lt).trans k1
    replace b0 := b0.trans (hy1.mono b0.size)
    clear x0 x1 x2 hy1 HRf1
    have HRp1 := Lib.hid (HRp.out v1 y1 hP1)
    go_wp2_with fail
    refine HRp1.out.mono ?_
    rintro e y2 ⟨rfl, hy2⟩
    replace k1 : Bk y2 _ _ _ := (hy2.block _ k1.lt).trans k1
    replace b0 := b0.trans (hy2.mono b0.size)
    clear HRp1 HRp hP1 hy2
    have HA1 := Lib.hid (HA.out y2 b0)
    go_wp2_with fail
    refine HA1.out.mono ?_
    rintro e y3 ⟨v3, rfl, hP3, hy3⟩
    replace hP3 := hP3.pv
    obtain ⟨a3, ca3, rfl, _, _, _, _⟩ := id hP3
    replace k1 : Bk y3 _ _ _ := (hy3.block _ k1.lt).trans k1
    replace b0 := b0.trans (hy3.mono b0.size)
    clear HA1 HA hy3
    go_upto_region 7 with fail
    have k3 := Bk.made y3 25 #[.slice a3 c.l.length ca3, .int .i64 c.lo, .int .i64 c.un]
    have hb3 : Below y3.heap.size y3 (y3.alloc (.cells #[.slice a3 c.l.length ca3, .int .i64 c.lo, .int .i64 c.un] 25)) := (Below.refl _ _).alloc (Nat.le_refl _) _
    replace hP3 := hP3.below hb3
    replace k1 : Bk _ _ _ _ := (hb3.block _ k1.lt).trans k1
    replace b0 := b0.trans (hb3.mono b0.size)
    clear hb3
    generalize y3.heap.size = T5 at *
    generalize y3.alloc (.cells #[.slice a3 c.l.length ca3, .int .i64 c.lo, .int .i64 c.un] 25) = z at *
    have HC : Hid (∀ W, Below z.heap.size z W → (W.cell? ⟨w.heap.size, 0, none⟩ = some (.slice a c.l.length ca) ∧ W.cell? ⟨w.heap.size, 1, none⟩ = some (.int .i64 c.lo) ∧ W.cell? ⟨w.heap.size, 2, none⟩ = some (.int .i64 c.un)) ∧ (W.cell? ⟨T5, 0, none⟩ = some (.slice a3 c.l.length ca3) ∧ W.cell? ⟨T5, 1, none⟩ = some (.int .i64 c.lo) ∧ W.cell? ⟨T5, 2, none⟩ = some (.int .i64 c.un))) := Lib.hid fun W hW => by
      have q1 : Bk W _ _ _ := (hW.block _ k1.lt).trans k1
      have q2 : Bk W _ _ _ := (hW.block _ k3.lt).trans k3
      exact ⟨⟨q1.cell 0, q1.cell 1, q1.cell 2⟩, ⟨q2.cell 0, q2.cell 1, q2.cell 2⟩⟩
    have HF1 : Hid (∀ W, Below z.heap.size z W → Calls Tryz.prog 10 #[.agg #[.slice a c.l.length ca, .int .i64 c.lo, .int .i64 c.un]] W fun e w' => ∃ v', e = .returned v' ∧ Pv w' v' c ∧ Below W.heap.size W w') := Lib.hid fun W hW => HRf.out W (b0.trans (hW.mono b0.size)) (by omega)
    have HF3 : Hid (∀ W, Below z.heap.size z W → Calls Tryz.prog 10 #[.agg #[.slice a3 c.l.length ca3, .int .i64 c.lo, .int .i64 c.un]] W fun e w' => ∃ v', e = .returned v' ∧ Pv w' v' c ∧ Below W.heap.size W w') := Lib.hid fun W hW => lRef c _ W (hP3.below hW) (by omega)
    have HSm : Hid (∀ v u W, Pv W v c → Pv W u c → Calls Tryz.prog 9 #[v, u] W fun e w' => e = .returned (.bool true) ∧ Below W.heap.size W w') := Lib.hid fun v u W hv hu => by
      have := rSame c c v u W hv hu (by omega)
      rw [(sameP_iff c c).2 rfl] at this
      exact this
    have HRt1 : Hid (∀ W, Below z.heap.size z W → Calls Tryz.prog 11 #[.agg #[.slice a c.l.length ca, .int .i64 c.lo, .int .i64 c.un]] W fun e w' => e = .returned (.bool true) ∧ Below W.heap.size W w') := Lib.hid fun W hW => HRt.out W (b0.trans (hW.mono b0.size))
    have HAw : Hid (∀ W, Below z.heap.size z W → Calls Tryz.prog 6 #[] W fun e w' => e = .returned (.bool true) ∧ Below W.heap.size W w') := Lib.hid fun W hW => HWA.out W (b0.trans (hW.mono b0.size))
    clear HRf HRt HWA HLB HV k1 k3 hP3
    refine wp_region_each (fun vs => { tmps := #[.agg #[.slice a c.l.length ca, .int .i64 c.lo, .int .i64 c.un], .pointer (some ⟨w.heap.size, 0, none⟩), vs 31, .string ⟨pr.toArray⟩, .int .i64 0, .pointer (some ⟨T5, 0, none⟩), .int .i64 0, .int .i64 0, .pointer (some ⟨w.heap.size, 0, none⟩), .slice a c.l.length ca, .int .i64 (c.l.length : Int), .bool false, undef, .tuple #[.string ⟨pr.toArray⟩, .int .i64 0], .agg #[.slice a c.l.length ca, .int .i64 c.lo, .int .i64 c.un], .tuple #[.string ⟨pr.toArray⟩, .int .i64 0], .string ⟨pr.toArray⟩, .int .i64 0, .agg #[.slice a c.l.length ca, .int .i64 c.lo, .int .i64 c.un], v1, .bool true, .bool false, undef, undef, undef, undef, undef, undef, undef, undef, undef, undef, undef, undef, undef, undef, .tuple #[.agg #[.slice a3 c.l.length ca3, .int .i64 c.lo, .int .i64 c.un], .int .i64 0, .int .i64 0], .string ⟨pr.toArray⟩, .tuple #[.agg #[.slice a3 c.l.length ca3, .int .i64 c.lo, .int .i64 c.un], .int .i64 0, .int .i64 0], .agg #[.slice a3 c.l.length ca3, .int .i64 c.lo, .int .i64 c.un], .int .i64 0, .int .i64 0, vs 0, vs 1, vs 2, vs 3, vs 4, vs 5, vs 6, vs 7, vs 8, vs 9, vs 10, vs 11, vs 12, vs 13, vs 14, vs 15, vs 16, vs 17, vs 18, vs 19, vs 20, vs 21, vs 22, vs 23, vs 24, vs 25, vs 26, vs 27, vs 28, vs 29, vs 30], defers := [] }) (mixT [(2, fun v W => Pv W v c), (15, fun v W => Pv W v c), (17, fun v W => Pv W v c)] [.string ⟨pr.toArray⟩, .agg #[.slice a c.l.length ca, .int .i64 c.lo, .int .i64 c.un], undef, .string ⟨pr.toArray⟩, .bool true, .bool true, .int .i64 0, .bool true, .bool true, .bool true, .agg #[.slice a c.l.length ca, .int .i64 c.lo, .int .i64 c.un], .bool true, .bool true, .bool true, .agg #[.slice a3 c.l.length ca3, .int .i64 c.lo, .int .i64 c.un], undef, .agg #[.slice a c.l.length ca, .int .i64 c.lo, .int .i64 c.un], undef, .bool true, .bool true, .bool true, .int .i64 0, .bool true, .bool true, .bool true, .int .i64 0, .bool true, .bool true, .bool true, .bool true, .bool true, .bool true]) ?ghm ?ghr ?glit ?gstable ?gops ?gdone
    case ghm => kernel_rfl
    case ghr => kernel_rfl
    case glit => intro vs; rfl
    case gstable => exact mixT_stable (by intro p hp; simp at hp; rcases hp with rfl | rfl | rfl <;> exact fun v W W' h hb => Pv.below h hb)
    case gops =>
      refine ⟨?_, ?_, ?_, ?_, ?_, ?_, ?_, ?_, ?_, ?_, ?_, ?_, ?_, ?_, ?_, ?_, ?_, ?_, ?_, ?_, ?_, ?_, ?_, ?_, ?_, ?_, ?_, ?_, ?_, ?_, ?_, ?_, trivial⟩
      · intro vs W hW hd
        refine leaves_free rfl ?_
        go_simp
        exact ⟨rfl, Below.refl _ _⟩
      · intro vs W hW hd
        refine leaves_free rfl ?_
        obtain ⟨⟨z0, z1, z2⟩, ⟨z3, z4, z5⟩⟩ := HC.out W hW
        go_simp
        exact ⟨rfl, Below.refl _ _⟩
      · intro vs W hW hd
        refine leaves_free rfl ?_
        have e1 : vs 1 = .agg #[.slice a c.l.length ca, .int .i64 c.lo, .int .i64 c.un] := hd 1 (by decide)
        have HS := Lib.hid (HF1.out W hW)
        clear hd
        go_simp
        refine HS.out.mono ?_
        rintro e y ⟨v, he, hp, hy⟩
        exact ⟨v, he, hp, hy⟩
      · intro vs W hW hd
        refine leaves_free rfl ?_
        have p1 : Pv W (vs 2) c := hd 2 (by decide)
        have HS := Lib.hid (HPr.out (vs 2) W p1)
        clear hd
        go_simp
        refine HS.out.mono ?_
        rintro e y ⟨he, hy⟩
        exact ⟨_, he, rfl, hy⟩
      · intro vs W hW hd
        refine leaves_free rfl ?_
        have e0 : vs 0 = .string ⟨pr.toArray⟩ := hd 0 (by decide)
        have e3 : vs 3 = .string ⟨pr.toArray⟩ := hd 3 (by decide)
        go_simp
        exact ⟨rfl, Below.refl _ _⟩
      · intro vs W hW hd
        refine leaves_free rfl ?_
        have e4 : vs 4 = .bool true := hd 4 (by decide)
        go_simp
        exact ⟨rfl, Below.refl _ _⟩
      · intro vs W hW hd
        have eg : vs 5 = .bool true := hd 5 (by decide)
        refine leaves_guard rfl (by show (match some (vs 5) with | some (.bool b) => some b | _ => none) = some true; rw [eg]) ?_
        go_simp
        exact ⟨rfl, Below.refl _ _⟩
      · intro vs W hW hd
        have eg : vs 5 = .bool true := hd 5 (by decide)
        refine leaves_guard rfl (by show (match some (vs 5) with | some (.bool b) => some b | _ => none) = some true; rw [eg]) ?_
        have e6 : vs 6 = .int .i64 0 := hd 6 (by decide)
        go_simp
        exact ⟨rfl, Below.refl _ _⟩
      · intro vs W hW hd
        refine leaves_free rfl ?_
        have e5 : vs 5 = .bool true := hd 5 (by decide)
        have e7 : vs 7 = .bool true := hd 7 (by decide)
        go_simp
        exact ⟨rfl, Below.refl _ _⟩
      · intro vs W hW hd
        refine leaves_free rfl ?_
        have e8 : vs 8 = .bool true := hd 8 (by decide)
        go_simp
        exact ⟨rfl, Below.refl _ _⟩
      · intro vs W hW hd
        have eg : vs 9 = .bool true := hd 9 (by decide)
        refine leaves_guard rfl (by show (match some (vs 9) with | some (.bool b) => some b | _ => none) = some true; rw [eg]) ?_
        obtain ⟨⟨z0, z1, z2⟩, ⟨z3, z4, z5⟩⟩ := HC.out W hW
        go_simp
        exact ⟨rfl, Below.refl _ _⟩
      · intro vs W hW hd
        have eg : vs 9 = .bool true := hd 9 (by decide)
        refine leaves_guard rfl (by show (match some (vs 9) with | some (.bool b) => some b | _ => none) = some true; rw [eg]) ?_
        have e10 : vs 10 = .agg #[.slice a c.l.length ca, .int .i64 c.lo, .int .i64 c.un] := hd 10 (by decide)
        have HS := Lib.hid (HRt1.out W hW)
        clear hd
        go_simp
        refine HS.out.mono ?_
        rintro e y ⟨he, hy⟩
        exact ⟨_, he, rfl, hy⟩
      · intro vs W hW hd
        refine leaves_free rfl ?_
        have e9 : vs 9 = .bool true := hd 9 (by decide)
        have e11 : vs 11 = .bool true := hd 11 (by decide)
        go_simp
        exact ⟨rfl, Below.refl _ _⟩
      · intro vs W hW hd
        refine leaves_free rfl ?_
        have e12 : vs 12 = .bool true := hd 12 (by decide)
        go_simp
        exact ⟨rfl, Below.refl _ _⟩
      · intro vs W hW hd
        have eg : vs 13 = .bool true := hd 13 (by decide)
        refine leaves_guard rfl (by show (match some (vs 13) with | some (.bool b) => some b | _ => none) = some true; rw [eg]) ?_
        obtain ⟨⟨z0, z1, z2⟩, ⟨z3, z4, z5⟩⟩ := HC.out W hW
        go_simp
        exact ⟨rfl, Below.refl _ _⟩
      · intro vs W hW hd
        have eg : vs 13 = .bool true := hd 13 (by decide)
        refine leaves_guard rfl (by show (match some (vs 13) with | some (.bool b) => some b | _ => none) = some true; rw [eg]) ?_
        have e14 : vs 14 = .agg #[.slice a3 c.l.length ca3, .int .i64 c.lo, .int .i64 c.un] := hd 14 (by decide)
        have HS := Lib.hid (HF3.out W hW)
        clear hd
        go_simp
        refine HS.out.mono ?_
        rintro e y ⟨v, he, hp, hy⟩
        exact ⟨v, he, hp, hy⟩
      · intro vs W hW hd
        have eg : vs 13 = .bool true := hd 13 (by decide)
        refine leaves_guard rfl (by show (match some (vs 13) with | some (.bool b) => some b | _ => none) = some true; rw [eg]) ?_
        obtain ⟨⟨z0, z1, z2⟩, ⟨z3, z4, z5⟩⟩ := HC.out W hW
        go_simp
        exact ⟨rfl, Below.refl _ _⟩
      · intro vs W hW hd
        have eg : vs 13 = .bool true := hd 13 (by decide)
        refine leaves_guard rfl (by show (match some (vs 13) with | some (.bool b) => some b | _ => none) = some true; rw [eg]) ?_
        have e16 : vs 16 = .agg #[.slice a c.l.length ca, .int .i64 c.lo, .int .i64 c.un] := hd 16 (by decide)
        have HS := Lib.hid (HF1.out W hW)
        clear hd
        go_simp
        refine HS.out.mono ?_
        rintro e y ⟨v, he, hp, hy⟩
        exact ⟨v, he, hp, hy⟩
      · intro vs W hW hd
        have eg : vs 13 = .bool true := hd 13 (by decide)
        refine leaves_guard rfl (by show (match some (vs 13) with | some (.bool b) => some b | _ => none) = some true; rw [eg]) ?_
        have p1 : Pv W (vs 15) c := hd 15 (by decide)
        have p2 : Pv W (vs 17) c := hd 17 (by decide)
        have HS := Lib.hid (HSm.out (vs 15) (vs 17) W p1 p2)
        clear hd
        go_simp
        refine HS.out.mono ?_
        rintro e y ⟨he, hy⟩
        exact ⟨_, he, rfl, hy⟩
      · intro vs W hW hd
        refine leaves_free rfl ?_
        have e13 : vs 13 = .bool true := hd 13 (by decide)
        have e18 : vs 18 = .bool true := hd 18 (by decide)
        go_simp
        exact ⟨rfl, Below.refl _ _⟩
      · intro vs W hW hd
        refine leaves_free rfl ?_
        have e19 : vs 19 = .bool true := hd 19 (by decide)
        go_simp
        exact ⟨rfl, Below.refl _ _⟩
      · intro vs W hW hd
        have eg : vs 20 = .bool true := hd 20 (by decide)
        refine leaves_guard rfl (by show (match some (vs 20) with | some (.bool b) => some b | _ => none) = some true; rw [eg]) ?_
        go_simp
        exact ⟨rfl, Below.refl _ _⟩
      · intro vs W hW hd
        have eg : vs 20 = .bool true := hd 20 (by decide)
        refine leaves_guard rfl (by show (match some (vs 20) with | some (.bool b) => some b | _ => none) = some true; rw [eg]) ?_
        have e21 : vs 21 = .int .i64 0 := hd 21 (by decide)
        go_simp
        exact ⟨rfl, Below.refl _ _⟩
      · intro vs W hW hd
        refine leaves_free rfl ?_
        have e20 : vs 20 = .bool true := hd 20 (by decide)
        have e22 : vs 22 = .bool true := hd 22 (by decide)
        go_simp
        exact ⟨rfl, Below.refl _ _⟩
      · intro vs W hW hd
        refine leaves_free rfl ?_
        have e23 : vs 23 = .bool true := hd 23 (by decide)
        go_simp
        exact ⟨rfl, Below.refl _ _⟩
      · intro vs W hW hd
        have eg : vs 24 = .bool true := hd 24 (by decide)
        refine leaves_guard rfl (by show (match some (vs 24) with | some (.bool b) => some b | _ => none) = some true; rw [eg]) ?_
        go_simp
        exact ⟨rfl, Below.refl _ _⟩
      · intro vs W hW hd
        have eg : vs 24 = .bool true := hd 24 (by decide)
        refine leaves_guard rfl (by show (match some (vs 24) with | some (.bool b) => some b | _ => none) = some true; rw [eg]) ?_
        have e25 : vs 25 = .int .i64 0 := hd 25 (by decide)
        go_simp
        exact ⟨rfl, Below.refl _ _⟩
      · intro vs W hW hd
        refine leaves_free rfl ?_
        have e24 : vs 24 = .bool true := hd 24 (by decide)
        have e26 : vs 26 = .bool true := hd 26 (by decide)
        go_simp
        exact ⟨rfl, Below.refl _ _⟩
      · intro vs W hW hd
        refine leaves_free rfl ?_
        have e27 : vs 27 = .bool true := hd 27 (by decide)
        go_simp
        exact ⟨rfl, Below.refl _ _⟩
      · intro vs W hW hd
        have eg : vs 28 = .bool true := hd 28 (by decide)
        refine leaves_guard rfl (by show (match some (vs 28) with | some (.bool b) => some b | _ => none) = some true; rw [eg]) ?_
        have HS := Lib.hid (HAw.out W hW)
        clear hd
        go_simp
        refine HS.out.mono ?_
        rintro e y ⟨he, hy⟩
        exact ⟨_, he, rfl, hy⟩
      · intro vs W hW hd
        refine leaves_free rfl ?_
        have e28 : vs 28 = .bool true := hd 28 (by decide)
        have e29 : vs 29 = .bool true := hd 29 (by decide)
        go_simp
        exact ⟨rfl, Below.refl _ _⟩
      · intro vs W hW hd
        refine leaves_free rfl ?_
        have e30 : vs 30 = .bool true := hd 30 (by decide)
        go_simp
        exact ⟨rfl, Below.refl _ _⟩
    case gdone =>
      intro vs W hW hf
      have f0 : vs 0 = .string ⟨pr.toArray⟩ := hf 0 (by decide)
      have f1 : vs 1 = .agg #[.slice a c.l.length ca, .int .i64 c.lo, .int .i64 c.un] := hf 1 (by decide)
      have f3 : vs 3 = .string ⟨pr.toArray⟩ := hf 3 (by decide)
      have f4 : vs 4 = .bool true := hf 4 (by decide)
      have f5 : vs 5 = .bool true := hf 5 (by decide)
      have f6 : vs 6 = .int .i64 0 := hf 6 (by decide)
      have f7 : vs 7 = .bool true := hf 7 (by decide)
      have f8 : vs 8 = .bool true := hf 8 (by decide)
      have f9 : vs 9 = .bool true := hf 9 (by decide)
      have f10 : vs 10 = .agg #[.slice a c.l.length ca, .int .i64 c.lo, .int .i64 c.un] := hf 10 (by decide)
      have f11 : vs 11 = .bool true := hf 11 (by decide)
      have f12 : vs 12 = .bool true := hf 12 (by decide)
      have f13 : vs 13 = .bool true := hf 13 (by decide)
      have f14 : vs 14 = .agg #[.slice a3 c.l.length ca3, .int .i64 c.lo, .int .i64 c.un] := hf 14 (by decide)
      have f16 : vs 16 = .agg #[.slice a c.l.length ca, .int .i64 c.lo, .int .i64 c.un] := hf 16 (by decide)
      have f18 : vs 18 = .bool true := hf 18 (by decide)
      have f19 : vs 19 = .bool true := hf 19 (by decide)
      have f20 : vs 20 = .bool true := hf 20 (by decide)
      have f21 : vs 21 = .int .i64 0 := hf 21 (by decide)
      have f22 : vs 22 = .bool true := hf 22 (by decide)
      have f23 : vs 23 = .bool true := hf 23 (by decide)
      have f24 : vs 24 = .bool true := hf 24 (by decide)
      have f25 : vs 25 = .int .i64 0 := hf 25 (by decide)
      have f26 : vs 26 = .bool true := hf 26 (by decide)
      have f27 : vs 27 = .bool true := hf 27 (by decide)
      have f28 : vs 28 = .bool true := hf 28 (by decide)
      have f29 : vs 29 = .bool true := hf 29 (by decide)
      have f30 : vs 30 = .bool true := hf 30 (by decide)
      have f31 : vs 31 = .bool true := hf 31 (by decide)
      simp only [f0, f1, f3, f4, f5, f6, f7, f8, f9, f10, f11, f12, f13, f14, f16, f18, f19, f20, f21, f22, f23, f24, f25, f26, f27, f28, f29, f30, f31]
      clear hf f0 f1 f3 f4 f5 f6 f7 f8 f9 f10 f11 f12 f13 f14 f16 f18 f19 f20 f21 f22 f23 f24 f25 f26 f27 f28 f29 f30 f31
      go_wp2
      go_ret
      exact ⟨rfl, b0.trans (hW.mono b0.size)⟩

set_option maxRecDepth 100000 in
theorem lifted (os : Os) (started : os.Started) (H : Type) (enc : TypeId × Value → H) :
    ReturnsInHanded {} Tryz.checked os 4 .any (fun w args => (Rows.asmPrintsSpec.pre enc Tryz.prog Tryz.f4 [] false w args ∧ laidMetH Tryz.prog Rows.asmPrintsRow.laid w) ∧ sizedMet enc Tryz.prog Tryz.f4 (OpenSpec.ofChange Rows.asmPrintsSpec) false w args)
      (Rows.asmPrintsSpec.post enc Tryz.prog Tryz.f4 false true false false) := by
  refine returns_laid (C := Tryz.checked) (X := fun w _ => laidMetH Tryz.prog Rows.asmPrintsRow.laid w) (fun _ _ _ hh h => h.of_heap hh) own started (by kernel_rfl) Tryz.func4
    (ChangeSpec.witness_shaped (enc := enc) (C := Tryz.checked) (os := os) (X := fun w _ => laidMetH Tryz.prog Rows.asmPrintsRow.laid w) false (World.laidAll Tryz.prog os Rows.asmPrintsRow.laid) #[.agg #[.slice none 0 0, .int .i64 0, .int .i64 0]] 8 (World.laidAll_os _ _ _)
      (World.shaped_of_ZipB (by kernel_rfl) (by kernel_rfl)) (by kernel_rfl) (by kernel_rfl) (by kernel_rfl)
      (by rw [MakeChecks.laidMetH_plain _ _ _ (by kernel_rfl)]; exact laidMet_laidAll _ (by kernel_rfl) (by kernel_rfl))) ?_
  intro W base args ds gs before hval0 hW hL hsh
  have hval : ∀ (j : Nat) t v, Tryz.f4.params[j]? = some t → args[j]? = some v → Value.okWide Tryz.prog W .any base t v := hval0
  have hW' := hW
  obtain ⟨p, q, hA0, hV, rfl, _, _⟩ := hW
  have hA : DataW.TrodAll enc Tryz.prog W 0 (fun _ => true) true Tryz.f4.params.toList args.toList ds p := hA0
  rw [Tryz.params4] at hA hval
  obtain ⟨v0, vs0, d0, ds0, p0, q0, hargs, rfl, rfl, h0, r0⟩ := trodAll_cons hA
  obtain ⟨rfl, rfl, rfl⟩ := trodAll_nil r0
  obtain rfl : args = #[v0] := by cases args; simp_all
  obtain ⟨rfl, rfl⟩ := trodVars_none hV
  have k0 := h0
  have lt0 : ∀ x ∈ p0, x.block < W.heap.size := by obtain ⟨m, hm⟩ := k0; exact DataW.trod_lt m _ _ _ hm
  obtain ⟨c0, hP0, f0⟩ := open_code (hval 0 25 v0 rfl rfl) h0
  clear hA0 hval0
  rw [MakeChecks.laidMetH_plain _ _ _ (by kernel_rfl)] at hL
  refine (walk c0 v0 f0 W hP0 (lb_of hL hsh)).mono fun e W' ⟨he, bel⟩ => ?_
  subst he
  exact ⟨_, rfl, _, _, _, [], _, [], hW', trodAll_mk1 (shut_bool Tryz.underlying4 _), (trodAll_cons_mk (Below.trod laidOut (by kernel_rfl) (of_decide_eq_true (by kernel_rfl)) k0 bel lt0) trodAll_mk0), rfl, bel.frame _, fun h => by cases h⟩

theorem over : Rows.asmPrintsRow.holds Tryz.pinned (OpenSpec.ofChange Rows.asmPrintsSpec) :=
  OpenClaim.holds_of_wide 4 Tryz.f4 rfl rfl rfl rfl rfl rfl rfl ⟨rfl, rfl, rfl, rfl, rfl⟩ rfl rfl rfl rfl rfl (by kernel_rfl) Tryz.func4 (by kernel_rfl)
    (of_decide_eq_true (by kernel_rfl)) (by unfold Func.isWrapper; first | (rw [if_pos (by decide +kernel)]; kernel_rfl) | (rw [if_neg (by decide +kernel)]; exact ⟨rfl, rfl⟩))
    (fun os started H enc _ => lifted os started H enc)

/-- The statement. -/
theorem proved : Rows.AsmPrintsCardSaid :=
  Claim7.holds_tied_plain_at .later [] Rows.asmPrintsCard.laidKinds true Rows.asmPrintsCard.stood.harness true over (fun _ h => by cases h) (by kernel_rfl) (fun _ h => by cases h) asmPrints_row_tie rfl ⟨rfl, rfl⟩ (by kernel_rfl) rfl
    (fun f fn hf hfn => by
      obtain rfl : f = 4 := Option.some.inj ((show Tryz.prog.funcNamed Rows.asmPrintsRow.func = some 4 by kernel_rfl).symm.trans hf) |>.symm
      obtain rfl : fn = Tryz.f4 := (Option.some.inj (Tryz.func4.symm.trans hfn)).symm
      exact ⟨by kernel_rfl, fun j t ht => by
        rw [Tryz.params4] at ht
        have hm : t ∈ [25] := by simpa using Array.mem_of_getElem? ht
        have hall : ([25].all fun u => !Tryz.prog.wantsStandIn u) = true := by kernel_rfl
        exact (show Tryz.prog.wantsStandIn t = false by simpa using List.all_eq_true.1 hall t hm)⟩)
    (by kernel_rfl)
#print axioms proved
end Go.Proofs.YteohnkilchkhkaaGreatDoor.asmPrints
