/- For any text: AsmAssembles returns true: what the program assembles of it, or the line and the error that it tells, is what the document says, and what is assembled is a right program (beyond 2500 bytes the fixed example alone); no condition. A tied card: the listed variables of the library are tied to the program's text. -/
import Derived.Test.YteohnkilchkhkaaGreatDoorAsmRb
import Derived.Test.YteohnkilchkhkaaGreatDoorAsmF
import Derived.Test.YteohnkilchkhkaaGreatDoorAsmS
import Derived.Test.YteohnkilchkhkaaGreatDoorAsmK
import Derived.ChangeMaps5
namespace Go.Proofs.YteohnkilchkhkaaGreatDoor.asmAssembles
open Go.ChangeShapes Go.WideShapes Go.ChangeAt Go.RowKit
set_option linter.unusedVariables false

theorem zero_or (text : List UInt8) : (asmL text).1 = Prg.zero ∨ (asmL text).2.2 = 0 := by
  unfold asmL
  split
  · exact .inl rfl
  · split
    · exact .inl rfl
    · split
      · exact .inl rfl
      · split
        · exact .inl rfl
        · exact .inr rfl
/-- What is known of whatever is assembled. -/
theorem asm_known (text : List UInt8) : ∃ (c : Prg) (n e : Int), asmL text = (c, n, e) ∧ c.l.length ≤ 64 ∧ (e = 0 → prgB c = true ∧ ∀ i ∈ c.l, 0 ≤ i.k ∧ i.k < 4294967296) := by
  rcases h : asmL text with ⟨c, n, e⟩
  refine ⟨c, n, e, rfl, ?_, ?_⟩
  · have hz := zero_or text
    rw [h] at hz
    rcases hz with hz | hz
    · simp only at hz
      subst hz
      exact Nat.zero_le _
    · simp only at hz
      subst hz
      exact (prg_facts (asm_right h).1).1
  · rintro rfl
    have := asm_right h
    exact ⟨this.1, this.2.2⟩

set_option maxHeartbeats 2000000 in
set_option maxRecDepth 100000 in
theorem walk (b : ByteArray) (hsz : b.size ≤ maxLen) (w : World) (L : Lb w) :
    Calls Tryz.prog 3 #[.string b] w fun e w' => e = .returned (.bool true) ∧ Below w.heap.size w w' := by
  obtain ⟨⟨s⟩⟩ := b
  replace hsz : s.length ≤ 9223372036854775807 := by
    have h1 : s.length ≤ maxLen := hsz
    unfold maxLen at h1
    omega
  have HLB := Lib.hid (fun W (hW : Below w.heap.size w W) => L.below hW)
  have HWA := Lib.hid (fun W (hW : Below w.heap.size w W) => lAwake W (L.below hW))
  change Calls Tryz.prog 3 #[.string ⟨s.toArray⟩] w _
  by_cases h25 : 2500 < s.length
  · have h26 : (2500 : Int) < (s.length : Int) := by omega
    go_enter Tryz.func3, Tryz.ntmps3
    go_wp2_with fail
    refine (HWA.out w (Below.refl _ _)).mono ?_
    rintro e z ⟨rfl, hz⟩
    go_wp2
    go_ret
    exact ⟨rfl, hz⟩
  have h26 : ¬ (2500 : Int) < (s.length : Int) := by omega
  have HA := Lib.hid (fun W (hW : Below w.heap.size w W) => cAssemble s (by omega) W (HLB.out W hW))
  have HB := Lib.hid (fun W => rAssemble s (by omega) W)
  unfold Asmd at HA
  unfold Asmr at HB
  obtain ⟨c, ln, er, he, hc64, hok⟩ := asm_known s
  rw [he] at HA HB
  simp only at HA HB
  unfold bs at HA HB
  have HOK := Lib.hid hok
  clear he hok L HLB
  go_enter Tryz.func3, Tryz.ntmps3
  go_wp2_with fail
  refine (HA.out w (Below.refl _ _)).mono ?_
  rintro e w1 ⟨v1, rfl, hP1, hw1⟩
  replace hP1 := hP1.pv
  obtain ⟨a1, ca1, rfl, _, _, _, _⟩ := id hP1
  go_upto_region 4 with fail
  have k1 := Bk.made w1 25 #[.slice a1 c.l.length ca1, .int .i64 c.lo, .int .i64 c.un]
  have hb1 : Below w1.heap.size w1 (w1.alloc (.cells #[.slice a1 c.l.length ca1, .int .i64 c.lo, .int .i64 c.un] 25)) := (Below.refl _ _).alloc (Nat.le_refl _) _
  replace hP1 := hP1.below hb1
  replace hw1 := hw1.trans (hb1.mono hw1.size)
  clear hb1
  generalize w1.heap.size = T3 at *
  generalize w1.alloc (.cells #[.slice a1 c.l.length ca1, .int .i64 c.lo, .int .i64 c.un] 25) = x1 at *
  go_wp2_with fail
  refine (HB.out x1).mono ?_
  rintro e w2 ⟨v2, rfl, hP2, hw2⟩
  replace hP1 := hP1.below hw2
  replace k1 : Bk w2 _ _ _ := (hw2.block _ k1.lt).trans k1
  replace hw1 := hw1.trans (hw2.mono hw1.size)
  clear hw2 x1
  obtain ⟨a2, ca2, rfl, _, _, _, _⟩ := id hP2
  go_upto_region 5 with fail
  have k2 := Bk.made w2 31 #[.slice a2 c.l.length ca2, .int .i64 c.lo, .int .i64 c.un]
  have hb2 : Below w2.heap.size w2 (w2.alloc (.cells #[.slice a2 c.l.length ca2, .int .i64 c.lo, .int .i64 c.un] 31)) := (Below.refl _ _).alloc (Nat.le_refl _) _
  replace hP1 := hP1.below hb2
  replace hP2 := hP2.below hb2
  replace k1 : Bk _ _ _ _ := (hb2.block _ k1.lt).trans k1
  replace hw1 := hw1.trans (hb2.mono hw1.size)
  clear hb2
  generalize w2.heap.size = T6 at *
  generalize w2.alloc (.cells #[.slice a2 c.l.length ca2, .int .i64 c.lo, .int .i64 c.un] 31) = x at *
  have HC : Hid (∀ W, Below x.heap.size x W → (W.cell? ⟨T3, 0, none⟩ = some (.slice a1 c.l.length ca1) ∧ W.cell? ⟨T3, 1, none⟩ = some (.int .i64 c.lo) ∧ W.cell? ⟨T3, 2, none⟩ = some (.int .i64 c.un)) ∧ (W.cell? ⟨T6, 0, none⟩ = some (.slice a2 c.l.length ca2) ∧ W.cell? ⟨T6, 1, none⟩ = some (.int .i64 c.lo) ∧ W.cell? ⟨T6, 2, none⟩ = some (.int .i64 c.un))) := Lib.hid fun W hW => by
    have q1 : Bk W _ _ _ := (hW.block _ k1.lt).trans k1
    have q2 : Bk W _ _ _ := (hW.block _ k2.lt).trans k2
    exact ⟨⟨q1.cell 0, q1.cell 1, q1.cell 2⟩, ⟨q2.cell 0, q2.cell 1, q2.cell 2⟩⟩
  have HRf : Hid (∀ W, Below x.heap.size x W → Calls Tryz.prog 10 #[.agg #[.slice a1 c.l.length ca1, .int .i64 c.lo, .int .i64 c.un]] W fun e w' => ∃ v', e = .returned v' ∧ Pv w' v' c ∧ Below W.heap.size W w') := Lib.hid fun W hW => lRef c _ W (hP1.below hW) (by omega)
  have HSm : Hid (∀ v W, Below x.heap.size x W → Pv W v c → Calls Tryz.prog 9 #[v, .agg #[.slice a2 c.l.length ca2, .int .i64 c.lo, .int .i64 c.un]] W fun e w' => e = .returned (.bool true) ∧ Below W.heap.size W w') := Lib.hid fun v W hW hv => by
    have := rSame c c v _ W hv (hP2.below hW) (by omega)
    rw [(sameP_iff c c).2 rfl] at this
    exact this
  have HRt : Hid (er = 0 → ∀ W, Below x.heap.size x W → Calls Tryz.prog 11 #[.agg #[.slice a1 c.l.length ca1, .int .i64 c.lo, .int .i64 c.un]] W fun e w' => e = .returned (.bool true) ∧ Below W.heap.size W w') := Lib.hid fun h W hW => by
    have := cAsmRightK c _ W (hP1.below hW) (HOK.out h).2
    rw [(HOK.out h).1] at this
    exact this
  have HAw : Hid (∀ W, Below x.heap.size x W → Calls Tryz.prog 6 #[] W fun e w' => e = .returned (.bool true) ∧ Below W.heap.size W w') := Lib.hid fun W hW => HWA.out W (hw1.trans (hW.mono hw1.size))
  clear HA HB HWA HOK k1 k2 hP1 hP2
  by_cases h0 : er = 0
  · subst h0
    refine wp_region_each (fun vs => { tmps := #[.string ⟨s.toArray⟩, undef, vs 25, .pointer (some ⟨T3, 0, none⟩), .int .i64 ln, .int .i64 0, .pointer (some ⟨T6, 0, none⟩), .int .i64 ln, .int .i64 0, .string ⟨s.toArray⟩, .int .i64 (s.length : Int), .bool false, undef, .tuple #[.agg #[.slice a1 c.l.length ca1, .int .i64 c.lo, .int .i64 c.un], .int .i64 ln, .int .i64 0], .string ⟨s.toArray⟩, .tuple #[.agg #[.slice a1 c.l.length ca1, .int .i64 c.lo, .int .i64 c.un], .int .i64 ln, .int .i64 0], .agg #[.slice a1 c.l.length ca1, .int .i64 c.lo, .int .i64 c.un], .int .i64 ln, .int .i64 0, .tuple #[.agg #[.slice a2 c.l.length ca2, .int .i64 c.lo, .int .i64 c.un], .int .i64 ln, .int .i64 0], .string ⟨s.toArray⟩, .tuple #[.agg #[.slice a2 c.l.length ca2, .int .i64 c.lo, .int .i64 c.un], .int .i64 ln, .int .i64 0], .agg #[.slice a2 c.l.length ca2, .int .i64 c.lo, .int .i64 c.un], .int .i64 ln, .int .i64 0, vs 0, vs 1, vs 2, vs 3, vs 4, vs 5, vs 6, vs 7, vs 8, vs 9, vs 10, vs 11, vs 12, vs 13, vs 14, vs 15, vs 16, vs 17, vs 18, vs 19, vs 20, vs 21, vs 22, vs 23, vs 24], defers := [] }) (mixT [(1, fun v W => Pv W v c)] [.agg #[.slice a1 c.l.length ca1, .int .i64 c.lo, .int .i64 c.un], undef, .agg #[.slice a2 c.l.length ca2, .int .i64 c.lo, .int .i64 c.un], .bool true, .bool true, .int .i64 ln, .int .i64 ln, .bool true, .bool true, .bool true, .int .i64 0, .int .i64 0, .bool true, .bool true, .bool true, .int .i64 0, .bool false, .bool false, .agg #[.slice a1 c.l.length ca1, .int .i64 c.lo, .int .i64 c.un], .bool true, .bool true, .bool true, .bool true, .bool true, .bool true, .bool true]) ?ghm ?ghr ?glit ?gstable ?gops ?gdone
    case ghm => kernel_rfl
    case ghr => kernel_rfl
    case glit => intro vs; rfl
    case gstable => exact mixT_stable (by intro p hp; simp at hp; subst hp; exact fun v W W' h hb => Pv.below h hb)
    case gops =>
      refine ⟨?_, ?_, ?_, ?_, ?_, ?_, ?_, ?_, ?_, ?_, ?_, ?_, ?_, ?_, ?_, ?_, ?_, ?_, ?_, ?_, ?_, ?_, ?_, ?_, ?_, ?_, trivial⟩
      · intro vs W hW hd
        refine leaves_free rfl ?_
        obtain ⟨⟨z0, z1, z2⟩, ⟨z3, z4, z5⟩⟩ := HC.out W hW
        go_simp
        exact ⟨rfl, Below.refl _ _⟩
      · intro vs W hW hd
        refine leaves_free rfl ?_
        have e0 : vs 0 = .agg #[.slice a1 c.l.length ca1, .int .i64 c.lo, .int .i64 c.un] := hd 0 (by decide)
        have HS := Lib.hid (HRf.out W hW)
        clear hd
        go_simp
        refine HS.out.mono ?_
        rintro e y ⟨v, he, hp, hy⟩
        exact ⟨v, he, hp, hy⟩
      · intro vs W hW hd
        refine leaves_free rfl ?_
        obtain ⟨⟨z0, z1, z2⟩, ⟨z3, z4, z5⟩⟩ := HC.out W hW
        go_simp
        exact ⟨rfl, Below.refl _ _⟩
      · intro vs W hW hd
        refine leaves_free rfl ?_
        have e2 : vs 2 = .agg #[.slice a2 c.l.length ca2, .int .i64 c.lo, .int .i64 c.un] := hd 2 (by decide)
        have p1 : Pv W (vs 1) c := hd 1 (by decide)
        have HS := Lib.hid (HSm.out (vs 1) W hW p1)
        clear hd
        go_simp
        refine HS.out.mono ?_
        rintro e y ⟨he, hy⟩
        exact ⟨_, he, rfl, hy⟩
      · intro vs W hW hd
        refine leaves_free rfl ?_
        have e3 : vs 3 = .bool true := hd 3 (by decide)
        go_simp
        exact ⟨rfl, Below.refl _ _⟩
      · intro vs W hW hd
        have eg : vs 4 = .bool true := hd 4 (by decide)
        refine leaves_guard rfl (by show (match some (vs 4) with | some (.bool b) => some b | _ => none) = some true; rw [eg]) ?_
        go_simp
        exact ⟨rfl, Below.refl _ _⟩
      · intro vs W hW hd
        have eg : vs 4 = .bool true := hd 4 (by decide)
        refine leaves_guard rfl (by show (match some (vs 4) with | some (.bool b) => some b | _ => none) = some true; rw [eg]) ?_
        go_simp
        exact ⟨rfl, Below.refl _ _⟩
      · intro vs W hW hd
        have eg : vs 4 = .bool true := hd 4 (by decide)
        refine leaves_guard rfl (by show (match some (vs 4) with | some (.bool b) => some b | _ => none) = some true; rw [eg]) ?_
        have e5 : vs 5 = .int .i64 ln := hd 5 (by decide)
        have e6 : vs 6 = .int .i64 ln := hd 6 (by decide)
        go_simp
        exact ⟨rfl, Below.refl _ _⟩
      · intro vs W hW hd
        refine leaves_free rfl ?_
        have e4 : vs 4 = .bool true := hd 4 (by decide)
        have e7 : vs 7 = .bool true := hd 7 (by decide)
        go_simp
        exact ⟨rfl, Below.refl _ _⟩
      · intro vs W hW hd
        refine leaves_free rfl ?_
        have e8 : vs 8 = .bool true := hd 8 (by decide)
        go_simp
        exact ⟨rfl, Below.refl _ _⟩
      · intro vs W hW hd
        have eg : vs 9 = .bool true := hd 9 (by decide)
        refine leaves_guard rfl (by show (match some (vs 9) with | some (.bool b) => some b | _ => none) = some true; rw [eg]) ?_
        go_simp
        exact ⟨rfl, Below.refl _ _⟩
      · intro vs W hW hd
        have eg : vs 9 = .bool true := hd 9 (by decide)
        refine leaves_guard rfl (by show (match some (vs 9) with | some (.bool b) => some b | _ => none) = some true; rw [eg]) ?_
        go_simp
        exact ⟨rfl, Below.refl _ _⟩
      · intro vs W hW hd
        have eg : vs 9 = .bool true := hd 9 (by decide)
        refine leaves_guard rfl (by show (match some (vs 9) with | some (.bool b) => some b | _ => none) = some true; rw [eg]) ?_
        have e10 : vs 10 = .int .i64 0 := hd 10 (by decide)
        have e11 : vs 11 = .int .i64 0 := hd 11 (by decide)
        go_simp
        exact ⟨rfl, Below.refl _ _⟩
      · intro vs W hW hd
        refine leaves_free rfl ?_
        have e9 : vs 9 = .bool true := hd 9 (by decide)
        have e12 : vs 12 = .bool true := hd 12 (by decide)
        go_simp
        exact ⟨rfl, Below.refl _ _⟩
      · intro vs W hW hd
        refine leaves_free rfl ?_
        have e13 : vs 13 = .bool true := hd 13 (by decide)
        go_simp
        exact ⟨rfl, Below.refl _ _⟩
      · intro vs W hW hd
        have eg : vs 14 = .bool true := hd 14 (by decide)
        refine leaves_guard rfl (by show (match some (vs 14) with | some (.bool b) => some b | _ => none) = some true; rw [eg]) ?_
        go_simp
        exact ⟨rfl, Below.refl _ _⟩
      · intro vs W hW hd
        have eg : vs 14 = .bool true := hd 14 (by decide)
        refine leaves_guard rfl (by show (match some (vs 14) with | some (.bool b) => some b | _ => none) = some true; rw [eg]) ?_
        have e15 : vs 15 = .int .i64 0 := hd 15 (by decide)
        go_simp
        exact ⟨rfl, Below.refl _ _⟩
      · intro vs W hW hd
        have eg : vs 14 = .bool true := hd 14 (by decide)
        refine leaves_guard rfl (by show (match some (vs 14) with | some (.bool b) => some b | _ => none) = some true; rw [eg]) ?_
        have e16 : vs 16 = .bool false := hd 16 (by decide)
        go_simp
        exact ⟨rfl, Below.refl _ _⟩
      · intro vs W hW hd
        have eg : vs 17 = .bool false := hd 17 (by decide)
        refine leaves_guard rfl (by show (match some (vs 17) with | some (.bool b) => some b | _ => none) = some false; rw [eg]) ?_
        obtain ⟨⟨z0, z1, z2⟩, ⟨z3, z4, z5⟩⟩ := HC.out W hW
        go_simp
        exact ⟨rfl, Below.refl _ _⟩
      · intro vs W hW hd
        have eg : vs 17 = .bool false := hd 17 (by decide)
        refine leaves_guard rfl (by show (match some (vs 17) with | some (.bool b) => some b | _ => none) = some false; rw [eg]) ?_
        have e18 : vs 18 = .agg #[.slice a1 c.l.length ca1, .int .i64 c.lo, .int .i64 c.un] := hd 18 (by decide)
        have HS := Lib.hid (HRt.out rfl W hW)
        clear hd
        go_simp
        refine HS.out.mono ?_
        rintro e y ⟨he, hy⟩
        exact ⟨_, he, rfl, hy⟩
      · intro vs W hW hd
        have eg : vs 14 = .bool true := hd 14 (by decide)
        refine leaves_guard rfl (by show (match some (vs 14) with | some (.bool b) => some b | _ => none) = some true; rw [eg]) ?_
        have e17 : vs 17 = .bool false := hd 17 (by decide)
        have e19 : vs 19 = .bool true := hd 19 (by decide)
        go_simp
        exact ⟨rfl, Below.refl _ _⟩
      · intro vs W hW hd
        refine leaves_free rfl ?_
        have e14 : vs 14 = .bool true := hd 14 (by decide)
        have e20 : vs 20 = .bool true := hd 20 (by decide)
        go_simp
        exact ⟨rfl, Below.refl _ _⟩
      · intro vs W hW hd
        refine leaves_free rfl ?_
        have e21 : vs 21 = .bool true := hd 21 (by decide)
        go_simp
        exact ⟨rfl, Below.refl _ _⟩
      · intro vs W hW hd
        have eg : vs 22 = .bool true := hd 22 (by decide)
        refine leaves_guard rfl (by show (match some (vs 22) with | some (.bool b) => some b | _ => none) = some true; rw [eg]) ?_
        have HS := Lib.hid (HAw.out W hW)
        clear hd
        go_simp
        refine HS.out.mono ?_
        rintro e y ⟨he, hy⟩
        exact ⟨_, he, rfl, hy⟩
      · intro vs W hW hd
        refine leaves_free rfl ?_
        have e22 : vs 22 = .bool true := hd 22 (by decide)
        have e23 : vs 23 = .bool true := hd 23 (by decide)
        go_simp
        exact ⟨rfl, Below.refl _ _⟩
      · intro vs W hW hd
        refine leaves_free rfl ?_
        have e24 : vs 24 = .bool true := hd 24 (by decide)
        go_simp
        exact ⟨rfl, Below.refl _ _⟩
    case gdone =>
      intro vs W hW hf
      have f0 : vs 0 = .agg #[.slice a1 c.l.length ca1, .int .i64 c.lo, .int .i64 c.un] := hf 0 (by decide)
      have f2 : vs 2 = .agg #[.slice a2 c.l.length ca2, .int .i64 c.lo, .int .i64 c.un] := hf 2 (by decide)
      have f3 : vs 3 = .bool true := hf 3 (by decide)
      have f4 : vs 4 = .bool true := hf 4 (by decide)
      have f5 : vs 5 = .int .i64 ln := hf 5 (by decide)
      have f6 : vs 6 = .int .i64 ln := hf 6 (by decide)
      have f7 : vs 7 = .bool true := hf 7 (by decide)
      have f8 : vs 8 = .bool true := hf 8 (by decide)
      have f9 : vs 9 = .bool true := hf 9 (by decide)
      have f10 : vs 10 = .int .i64 0 := hf 10 (by decide)
      have f11 : vs 11 = .int .i64 0 := hf 11 (by decide)
      have f12 : vs 12 = .bool true := hf 12 (by decide)
      have f13 : vs 13 = .bool true := hf 13 (by decide)
      have f14 : vs 14 = .bool true := hf 14 (by decide)
      have f15 : vs 15 = .int .i64 0 := hf 15 (by decide)
      have f16 : vs 16 = .bool false := hf 16 (by decide)
      have f17 : vs 17 = .bool false := hf 17 (by decide)
      have f18 : vs 18 = .agg #[.slice a1 c.l.length ca1, .int .i64 c.lo, .int .i64 c.un] := hf 18 (by decide)
      have f19 : vs 19 = .bool true := hf 19 (by decide)
      have f20 : vs 20 = .bool true := hf 20 (by decide)
      have f21 : vs 21 = .bool true := hf 21 (by decide)
      have f22 : vs 22 = .bool true := hf 22 (by decide)
      have f23 : vs 23 = .bool true := hf 23 (by decide)
      have f24 : vs 24 = .bool true := hf 24 (by decide)
      have f25 : vs 25 = .bool true := hf 25 (by decide)
      simp only [f0, f2, f3, f4, f5, f6, f7, f8, f9, f10, f11, f12, f13, f14, f15, f16, f17, f18, f19, f20, f21, f22, f23, f24, f25]
      clear hf f0 f2 f3 f4 f5 f6 f7 f8 f9 f10 f11 f12 f13 f14 f15 f16 f17 f18 f19 f20 f21 f22 f23 f24 f25
      go_wp2
      go_ret
      exact ⟨rfl, hw1.trans (hW.mono hw1.size)⟩
  · have h1 : (er != 0) = true := by simpa using h0
    clear h0
    refine wp_region_each (fun vs => { tmps := #[.string ⟨s.toArray⟩, undef, vs 25, .pointer (some ⟨T3, 0, none⟩), .int .i64 ln, .int .i64 er, .pointer (some ⟨T6, 0, none⟩), .int .i64 ln, .int .i64 er, .string ⟨s.toArray⟩, .int .i64 (s.length : Int), .bool false, undef, .tuple #[.agg #[.slice a1 c.l.length ca1, .int .i64 c.lo, .int .i64 c.un], .int .i64 ln, .int .i64 er], .string ⟨s.toArray⟩, .tuple #[.agg #[.slice a1 c.l.length ca1, .int .i64 c.lo, .int .i64 c.un], .int .i64 ln, .int .i64 er], .agg #[.slice a1 c.l.length ca1, .int .i64 c.lo, .int .i64 c.un], .int .i64 ln, .int .i64 er, .tuple #[.agg #[.slice a2 c.l.length ca2, .int .i64 c.lo, .int .i64 c.un], .int .i64 ln, .int .i64 er], .string ⟨s.toArray⟩, .tuple #[.agg #[.slice a2 c.l.length ca2, .int .i64 c.lo, .int .i64 c.un], .int .i64 ln, .int .i64 er], .agg #[.slice a2 c.l.length ca2, .int .i64 c.lo, .int .i64 c.un], .int .i64 ln, .int .i64 er, vs 0, vs 1, vs 2, vs 3, vs 4, vs 5, vs 6, vs 7, vs 8, vs 9, vs 10, vs 11, vs 12, vs 13, vs 14, vs 15, vs 16, vs 17, vs 18, vs 19, vs 20, vs 21, vs 22, vs 23, vs 24], defers := [] }) (mixT [(1, fun v W => Pv W v c)] [.agg #[.slice a1 c.l.length ca1, .int .i64 c.lo, .int .i64 c.un], undef, .agg #[.slice a2 c.l.length ca2, .int .i64 c.lo, .int .i64 c.un], .bool true, .bool true, .int .i64 ln, .int .i64 ln, .bool true, .bool true, .bool true, .int .i64 er, .int .i64 er, .bool true, .bool true, .bool true, .int .i64 er, .bool true, .bool true, undef, undef, .bool true, .bool true, .bool true, .bool true, .bool true, .bool true]) ?ghm ?ghr ?glit ?gstable ?gops ?gdone
    case ghm => kernel_rfl
    case ghr => kernel_rfl
    case glit => intro vs; rfl
    case gstable => exact mixT_stable (by intro p hp; simp at hp; subst hp; exact fun v W W' h hb => Pv.below h hb)
    case gops =>
      refine ⟨?_, ?_, ?_, ?_, ?_, ?_, ?_, ?_, ?_, ?_, ?_, ?_, ?_, ?_, ?_, ?_, ?_, ?_, ?_, ?_, ?_, ?_, ?_, ?_, ?_, ?_, trivial⟩
      · intro vs W hW hd
        refine leaves_free rfl ?_
        obtain ⟨⟨z0, z1, z2⟩, ⟨z3, z4, z5⟩⟩ := HC.out W hW
        go_simp
        exact ⟨rfl, Below.refl _ _⟩
      · intro vs W hW hd
        refine leaves_free rfl ?_
        have e0 : vs 0 = .agg #[.slice a1 c.l.length ca1, .int .i64 c.lo, .int .i64 c.un] := hd 0 (by decide)
        have HS := Lib.hid (HRf.out W hW)
        clear hd
        go_simp
        refine HS.out.mono ?_
        rintro e y ⟨v, he, hp, hy⟩
        exact ⟨v, he, hp, hy⟩
      · intro vs W hW hd
        refine leaves_free rfl ?_
        obtain ⟨⟨z0, z1, z2⟩, ⟨z3, z4, z5⟩⟩ := HC.out W hW
        go_simp
        exact ⟨rfl, Below.refl _ _⟩
      · intro vs W hW hd
        refine leaves_free rfl ?_
        have e2 : vs 2 = .agg #[.slice a2 c.l.length ca2, .int .i64 c.lo, .int .i64 c.un] := hd 2 (by decide)
        have p1 : Pv W (vs 1) c := hd 1 (by decide)
        have HS := Lib.hid (HSm.out (vs 1) W hW p1)
        clear hd
        go_simp
        refine HS.out.mono ?_
        rintro e y ⟨he, hy⟩
        exact ⟨_, he, rfl, hy⟩
      · intro vs W hW hd
        refine leaves_free rfl ?_
        have e3 : vs 3 = .bool true := hd 3 (by decide)
        go_simp
        exact ⟨rfl, Below.refl _ _⟩
      · intro vs W hW hd
        have eg : vs 4 = .bool true := hd 4 (by decide)
        refine leaves_guard rfl (by show (match some (vs 4) with | some (.bool b) => some b | _ => none) = some true; rw [eg]) ?_
        go_simp
        exact ⟨rfl, Below.refl _ _⟩
      · intro vs W hW hd
        have eg : vs 4 = .bool true := hd 4 (by decide)
        refine leaves_guard rfl (by show (match some (vs 4) with | some (.bool b) => some b | _ => none) = some true; rw [eg]) ?_
        go_simp
        exact ⟨rfl, Below.refl _ _⟩
      · intro vs W hW hd
        have eg : vs 4 = .bool true := hd 4 (by decide)
        refine leaves_guard rfl (by show (match some (vs 4) with | some (.bool b) => some b | _ => none) = some true; rw [eg]) ?_
        have e5 : vs 5 = .int .i64 ln := hd 5 (by decide)
        have e6 : vs 6 = .int .i64 ln := hd 6 (by decide)
        go_simp
        exact ⟨rfl, Below.refl _ _⟩
      · intro vs W hW hd
        refine leaves_free rfl ?_
        have e4 : vs 4 = .bool true := hd 4 (by decide)
        have e7 : vs 7 = .bool true := hd 7 (by decide)
        go_simp
        exact ⟨rfl, Below.refl _ _⟩
      · intro vs W hW hd
        refine leaves_free rfl ?_
        have e8 : vs 8 = .bool true := hd 8 (by decide)
        go_simp
        exact ⟨rfl, Below.refl _ _⟩
      · intro vs W hW hd
        have eg : vs 9 = .bool true := hd 9 (by decide)
        refine leaves_guard rfl (by show (match some (vs 9) with | some (.bool b) => some b | _ => none) = some true; rw [eg]) ?_
        go_simp
        exact ⟨rfl, Below.refl _ _⟩
      · intro vs W hW hd
        have eg : vs 9 = .bool true := hd 9 (by decide)
        refine leaves_guard rfl (by show (match some (vs 9) with | some (.bool b) => some b | _ => none) = some true; rw [eg]) ?_
        go_simp
        exact ⟨rfl, Below.refl _ _⟩
      · intro vs W hW hd
        have eg : vs 9 = .bool true := hd 9 (by decide)
        refine leaves_guard rfl (by show (match some (vs 9) with | some (.bool b) => some b | _ => none) = some true; rw [eg]) ?_
        have e10 : vs 10 = .int .i64 er := hd 10 (by decide)
        have e11 : vs 11 = .int .i64 er := hd 11 (by decide)
        go_simp
        exact ⟨rfl, Below.refl _ _⟩
      · intro vs W hW hd
        refine leaves_free rfl ?_
        have e9 : vs 9 = .bool true := hd 9 (by decide)
        have e12 : vs 12 = .bool true := hd 12 (by decide)
        go_simp
        exact ⟨rfl, Below.refl _ _⟩
      · intro vs W hW hd
        refine leaves_free rfl ?_
        have e13 : vs 13 = .bool true := hd 13 (by decide)
        go_simp
        exact ⟨rfl, Below.refl _ _⟩
      · intro vs W hW hd
        have eg : vs 14 = .bool true := hd 14 (by decide)
        refine leaves_guard rfl (by show (match some (vs 14) with | some (.bool b) => some b | _ => none) = some true; rw [eg]) ?_
        go_simp
        exact ⟨rfl, Below.refl _ _⟩
      · intro vs W hW hd
        have eg : vs 14 = .bool true := hd 14 (by decide)
        refine leaves_guard rfl (by show (match some (vs 14) with | some (.bool b) => some b | _ => none) = some true; rw [eg]) ?_
        have e15 : vs 15 = .int .i64 er := hd 15 (by decide)
        go_simp
        exact ⟨rfl, Below.refl _ _⟩
      · intro vs W hW hd
        have eg : vs 14 = .bool true := hd 14 (by decide)
        refine leaves_guard rfl (by show (match some (vs 14) with | some (.bool b) => some b | _ => none) = some true; rw [eg]) ?_
        have e16 : vs 16 = .bool true := hd 16 (by decide)
        go_simp
        exact ⟨rfl, Below.refl _ _⟩
      · intro vs W hW hd
        have eg : vs 17 = .bool true := hd 17 (by decide)
        exact leaves_skip rfl (by show (match some (vs 17) with | some (.bool b) => some b | _ => none) = some (!false); rw [eg]; rfl) rfl
      · intro vs W hW hd
        have eg : vs 17 = .bool true := hd 17 (by decide)
        exact leaves_skip rfl (by show (match some (vs 17) with | some (.bool b) => some b | _ => none) = some (!false); rw [eg]; rfl) rfl
      · intro vs W hW hd
        have eg : vs 14 = .bool true := hd 14 (by decide)
        refine leaves_guard rfl (by show (match some (vs 14) with | some (.bool b) => some b | _ => none) = some true; rw [eg]) ?_
        have e17 : vs 17 = .bool true := hd 17 (by decide)
        have e19 : vs 19 = undef := hd 19 (by decide)
        go_simp
        exact ⟨rfl, Below.refl _ _⟩
      · intro vs W hW hd
        refine leaves_free rfl ?_
        have e14 : vs 14 = .bool true := hd 14 (by decide)
        have e20 : vs 20 = .bool true := hd 20 (by decide)
        go_simp
        exact ⟨rfl, Below.refl _ _⟩
      · intro vs W hW hd
        refine leaves_free rfl ?_
        have e21 : vs 21 = .bool true := hd 21 (by decide)
        go_simp
        exact ⟨rfl, Below.refl _ _⟩
      · intro vs W hW hd
        have eg : vs 22 = .bool true := hd 22 (by decide)
        refine leaves_guard rfl (by show (match some (vs 22) with | some (.bool b) => some b | _ => none) = some true; rw [eg]) ?_
        have HS := Lib.hid (HAw.out W hW)
        clear hd
        go_simp
        refine HS.out.mono ?_
        rintro e y ⟨he, hy⟩
        exact ⟨_, he, rfl, hy⟩
      · intro vs W hW hd
        refine leaves_free rfl ?_
        have e22 : vs 22 = .bool true := hd 22 (by decide)
        have e23 : vs 23 = .bool true := hd 23 (by decide)
        go_simp
        exact ⟨rfl, Below.refl _ _⟩
      · intro vs W hW hd
        refine leaves_free rfl ?_
        have e24 : vs 24 = .bool true := hd 24 (by decide)
        go_simp
        exact ⟨rfl, Below.refl _ _⟩
    case gdone =>
      intro vs W hW hf
      have f0 : vs 0 = .agg #[.slice a1 c.l.length ca1, .int .i64 c.lo, .int .i64 c.un] := hf 0 (by decide)
      have f2 : vs 2 = .agg #[.slice a2 c.l.length ca2, .int .i64 c.lo, .int .i64 c.un] := hf 2 (by decide)
      have f3 : vs 3 = .bool true := hf 3 (by decide)
      have f4 : vs 4 = .bool true := hf 4 (by decide)
      have f5 : vs 5 = .int .i64 ln := hf 5 (by decide)
      have f6 : vs 6 = .int .i64 ln := hf 6 (by decide)
      have f7 : vs 7 = .bool true := hf 7 (by decide)
      have f8 : vs 8 = .bool true := hf 8 (by decide)
      have f9 : vs 9 = .bool true := hf 9 (by decide)
      have f10 : vs 10 = .int .i64 er := hf 10 (by decide)
      have f11 : vs 11 = .int .i64 er := hf 11 (by decide)
      have f12 : vs 12 = .bool true := hf 12 (by decide)
      have f13 : vs 13 = .bool true := hf 13 (by decide)
      have f14 : vs 14 = .bool true := hf 14 (by decide)
      have f15 : vs 15 = .int .i64 er := hf 15 (by decide)
      have f16 : vs 16 = .bool true := hf 16 (by decide)
      have f17 : vs 17 = .bool true := hf 17 (by decide)
      have f18 : vs 18 = undef := hf 18 (by decide)
      have f19 : vs 19 = undef := hf 19 (by decide)
      have f20 : vs 20 = .bool true := hf 20 (by decide)
      have f21 : vs 21 = .bool true := hf 21 (by decide)
      have f22 : vs 22 = .bool true := hf 22 (by decide)
      have f23 : vs 23 = .bool true := hf 23 (by decide)
      have f24 : vs 24 = .bool true := hf 24 (by decide)
      have f25 : vs 25 = .bool true := hf 25 (by decide)
      simp only [f0, f2, f3, f4, f5, f6, f7, f8, f9, f10, f11, f12, f13, f14, f15, f16, f17, f18, f19, f20, f21, f22, f23, f24, f25]
      clear hf f0 f2 f3 f4 f5 f6 f7 f8 f9 f10 f11 f12 f13 f14 f15 f16 f17 f18 f19 f20 f21 f22 f23 f24 f25
      go_wp2
      go_ret
      exact ⟨rfl, hw1.trans (hW.mono hw1.size)⟩

set_option maxRecDepth 100000 in
theorem lifted (os : Os) (started : os.Started) (H : Type) (enc : TypeId × Value → H) :
    ReturnsInHanded {} Tryz.checked os 3 .any (fun w args => (Rows.asmAssemblesSpec.pre enc Tryz.prog Tryz.f3 [] false w args ∧ laidMetH Tryz.prog Rows.asmAssemblesRow.laid w) ∧ sizedMet enc Tryz.prog Tryz.f3 (OpenSpec.ofChange Rows.asmAssemblesSpec) false w args)
      (Rows.asmAssemblesSpec.post enc Tryz.prog Tryz.f3 false true false false) := by
  refine returns_laid (C := Tryz.checked) (X := fun w _ => laidMetH Tryz.prog Rows.asmAssemblesRow.laid w) (fun _ _ _ hh h => h.of_heap hh) own started (by kernel_rfl) Tryz.func3
    (ChangeSpec.witness_shaped (enc := enc) (C := Tryz.checked) (os := os) (X := fun w _ => laidMetH Tryz.prog Rows.asmAssemblesRow.laid w) false (World.laidAll Tryz.prog os Rows.asmAssemblesRow.laid) #[.string ⟨#[]⟩] 8 (World.laidAll_os _ _ _)
      (World.shaped_of_ZipB (by kernel_rfl) (by kernel_rfl)) (by kernel_rfl) (by kernel_rfl) (by kernel_rfl)
      (by rw [MakeChecks.laidMetH_plain _ _ _ (by kernel_rfl)]; exact laidMet_laidAll _ (by kernel_rfl) (by kernel_rfl))) ?_
  intro W base args ds gs before hval0 hW hL hsh
  have hval : ∀ (j : Nat) t v, Tryz.f3.params[j]? = some t → args[j]? = some v → Value.okWide Tryz.prog W .any base t v := hval0
  have hW' := hW
  obtain ⟨p, q, hA0, hV, rfl, _, _⟩ := hW
  have hA : DataW.TrodAll enc Tryz.prog W 0 (fun _ => true) true Tryz.f3.params.toList args.toList ds p := hA0
  rw [Tryz.params3] at hA hval
  obtain ⟨v0, vs0, d0, ds0, p0, q0, hargs, rfl, rfl, h0, r0⟩ := trodAll_cons hA
  obtain ⟨rfl, rfl, rfl⟩ := trodAll_nil r0
  obtain rfl : args = #[v0] := by cases args; simp_all
  obtain ⟨rfl, rfl⟩ := trodVars_none hV
  have k0 := h0
  have lt0 : ∀ x ∈ p0, x.block < W.heap.size := by obtain ⟨m, hm⟩ := k0; exact DataW.trod_lt m _ _ _ hm
  obtain ⟨x0, rfl, rfl, rfl, f0⟩ := Go.ChangeMaps.open_string Tryz.underlying9 (hval 0 9 v0 rfl rfl) h0
  clear hA0 hval0
  rw [MakeChecks.laidMetH_plain _ _ _ (by kernel_rfl)] at hL
  refine (walk x0 f0 W  (lb_of hL hsh)).mono fun e W' ⟨he, bel⟩ => ?_
  subst he
  exact ⟨_, rfl, _, _, _, [], _, [], hW', trodAll_mk1 (shut_bool Tryz.underlying4 _), (trodAll_cons_mk (Below.trod laidOut (by kernel_rfl) (of_decide_eq_true (by kernel_rfl)) k0 bel lt0) trodAll_mk0), rfl, bel.frame _, fun h => by cases h⟩

theorem over : Rows.asmAssemblesRow.holds Tryz.pinned (OpenSpec.ofChange Rows.asmAssemblesSpec) :=
  OpenClaim.holds_of_wide 3 Tryz.f3 rfl rfl rfl rfl rfl rfl rfl ⟨rfl, rfl, rfl, rfl, rfl⟩ rfl rfl rfl rfl rfl (by kernel_rfl) Tryz.func3 (by kernel_rfl)
    (of_decide_eq_true (by kernel_rfl)) (by unfold Func.isWrapper; first | (rw [if_pos (by decide +kernel)]; kernel_rfl) | (rw [if_neg (by decide +kernel)]; exact ⟨rfl, rfl⟩))
    (fun os started H enc _ => lifted os started H enc)

/-- The statement. -/
theorem proved : Rows.AsmAssemblesCardSaid :=
  Claim7.holds_tied_plain_at .later [] Rows.asmAssemblesCard.laidKinds true Rows.asmAssemblesCard.stood.harness true over (fun _ h => by cases h) (by kernel_rfl) (fun _ h => by cases h) asmAssembles_row_tie rfl ⟨rfl, rfl⟩ (by kernel_rfl) rfl
    (fun f fn hf hfn => by
      obtain rfl : f = 3 := Option.some.inj ((show Tryz.prog.funcNamed Rows.asmAssemblesRow.func = some 3 by kernel_rfl).symm.trans hf) |>.symm
      obtain rfl : fn = Tryz.f3 := (Option.some.inj (Tryz.func3.symm.trans hfn)).symm
      exact ⟨by kernel_rfl, fun j t ht => by
        rw [Tryz.params3] at ht
        have hm : t ∈ [9] := by simpa using Array.mem_of_getElem? ht
        have hall : ([9].all fun u => !Tryz.prog.wantsStandIn u) = true := by kernel_rfl
        exact (show Tryz.prog.wantsStandIn t = false by simpa using List.all_eq_true.1 hall t hm)⟩)
    (by kernel_rfl)
#print axioms proved
end Go.Proofs.YteohnkilchkhkaaGreatDoor.asmAssembles
