/- The walk of AsmCopies. -/
import Derived.Test.YteohnkilchkhkaaDoorAsmG
import Derived.Test.YteohnkilchkhkaaDoorCopy
import Derived.Test.YteohnkilchkhkaaDoorRefP
import Derived.Test.YteohnkilchkhkaaDoorInv
import Derived.Test.YteohnkilchkhkaaDoorOpenP
namespace Go.Proofs.YteohnkilchkhkaaDoor.asmCopies
open Go.ChangeShapes Go.WideShapes Go.ChangeAt Go.RowKit
set_option linter.unusedVariables false

/-- What the operations of a first look leave. -/
def F3 (c d : Prg) (vc vd : Value) : Nat → Value → World → Prop
  | 0, r, _ => r = vc
  | 1, r, _ => r = vd
  | 2, r, _ => r = .bool (sameP c d)
  | 3, r, _ => r = vc
  | 4, r, W => Pv W r c
  | 5, r, _ => r = vd
  | 6, r, W => Pv W r d
  | 7, r, _ => r = .bool (sameP c d)
  | _, r, _ => r = .bool false
theorem F3_stable {c d : Prg} {vc vd : Value} : ∀ i r W W', F3 c d vc vd i r W → Below W.heap.size W W' → F3 c d vc vd i r W' := by
  intro i r W W' h hW
  match i, h with
  | 0, h => exact h
  | 1, h => exact h
  | 2, h => exact h
  | 3, h => exact h
  | 4, h => exact Pv.below h hW
  | 5, h => exact h
  | 6, h => exact Pv.below h hW
  | 7, h => exact h
  | n + 8, h => exact h

/-- What the operations of a second look leave. -/
def F7 (c : Prg) (vc v3 v4 : Value) : Nat → Value → World → Prop
  | 0, r, _ => r = v4
  | 1, r, W => Pv W r c
  | 2, r, _ => r = v3
  | 3, r, _ => r = .bool true
  | 4, r, _ => r = .bool false
  | 5, r, _ => r = .bool false
  | 6, r, _ => r = v4
  | 7, r, _ => r = vc
  | 8, r, _ => r = .bool true
  | _, r, _ => r = .bool false
theorem F7_stable {c : Prg} {vc v3 v4 : Value} : ∀ i r W W', F7 c vc v3 v4 i r W → Below W.heap.size W W' → F7 c vc v3 v4 i r W' := by
  intro i r W W' h hW
  match i, h with
  | 0, h => exact h
  | 1, h => exact Pv.below h hW
  | 2, h => exact h
  | 3, h => exact h
  | 4, h => exact h
  | 5, h => exact h
  | 6, h => exact h
  | 7, h => exact h
  | 8, h => exact h
  | n + 9, h => exact h
/-- What the operations of a last look leave. -/
def F14 (c : Prg) (vc v3 : Value) : Nat → Value → World → Prop
  | 0, r, _ => r = vc
  | 1, r, W => Pv W r c
  | 2, r, _ => r = v3
  | _, r, _ => r = .bool true
theorem F14_stable {c : Prg} {vc v3 : Value} : ∀ i r W W', F14 c vc v3 i r W → Below W.heap.size W W' → F14 c vc v3 i r W' := by
  intro i r W W' h hW
  match i, h with
  | 0, h => exact h
  | 1, h => exact Pv.below h hW
  | 2, h => exact h
  | n + 3, h => exact h

/-- Eight cells of a row are others. -/
def put8At (y : World) (g n : Nat) (a0 a1 a2 a3 a4 a5 a6 a7 : Value) : World := (((((((y.setCell ⟨g, n, none⟩ a0).setCell ⟨g, n + 1, none⟩ a1).setCell ⟨g, n + 2, none⟩ a2).setCell ⟨g, n + 3, none⟩ a3).setCell ⟨g, n + 4, none⟩ a4).setCell ⟨g, n + 5, none⟩ a5).setCell ⟨g, n + 6, none⟩ a6).setCell ⟨g, n + 7, none⟩ a7
theorem put8At_own {y : World} {base g m cap : Nat} {t : TypeId} {xs : List Value} (h : y.ownsRow base t 8 (.slice (some ⟨g, 0, none⟩) m cap) m xs) (n : Nat) (a0 a1 a2 a3 a4 a5 a6 a7 : Value) :
    ∃ ys, (put8At y g n a0 a1 a2 a3 a4 a5 a6 a7).ownsRow base t 8 (.slice (some ⟨g, 0, none⟩) m cap) m ys ∧ Within y (put8At y g n a0 a1 a2 a3 a4 a5 a6 a7) (fun b => b = g) := by
  have h0 := (World.ownsRow.stored h n a0).1
  have h1 := (World.ownsRow.stored h0 (n + 1) a1).1
  have h2 := (World.ownsRow.stored h1 (n + 2) a2).1
  have h3 := (World.ownsRow.stored h2 (n + 3) a3).1
  have h4 := (World.ownsRow.stored h3 (n + 4) a4).1
  have h5 := (World.ownsRow.stored h4 (n + 5) a5).1
  have h6 := (World.ownsRow.stored h5 (n + 6) a6).1
  have h7 := (World.ownsRow.stored h6 (n + 7) a7).1
  refine ⟨_, h7, ?_⟩
  exact ((((((((Within.refl y (fun b => b = g)).put g n a0 (.inl rfl)).put g (n + 1) a1 (.inl rfl)).put g (n + 2) a2 (.inl rfl)).put g (n + 3) a3 (.inl rfl)).put g (n + 4) a4 (.inl rfl)).put g (n + 5) a5 (.inl rfl)).put g (n + 6) a6 (.inl rfl)).put g (n + 7) a7 (.inl rfl)

set_option maxRecDepth 100000 in
set_option maxHeartbeats 1000000 in
theorem walk (c : Prg) (v : Value) (d : Prg) (u : Value) (fc : PrgWf c) (fd : PrgWf d) (w : World) (hv : Pv w v c) (hu : Pv w u d) (L : Lb w) :
    Calls Tryd.prog 3 #[v, u] w fun e w' => e = .returned (.bool true) ∧ Below w.heap.size w w' := by
  have HW := Lib.hid (fun W LW => lAwake W LW)
  have hv2 := hv
  have hu2 := hu
  obtain ⟨a, ca, rfl, _, _, _, ha⟩ := hv
  obtain ⟨b, cb, rfl, _, _, _, hb⟩ := hu
  obtain ⟨b0, k1, k2⟩ := two_boxes w 24 #[.slice a c.l.length ca, .int .i64 c.lo, .int .i64 c.un] #[.slice b d.l.length cb, .int .i64 d.lo, .int .i64 d.un]
  go_enter Tryd.func3, Tryd.ntmps3
  go_upto_region 1 with fail
  generalize (w.alloc (.cells #[.slice a c.l.length ca, .int .i64 c.lo, .int .i64 c.un] 24)).alloc (.cells #[.slice b d.l.length cb, .int .i64 d.lo, .int .i64 d.un] 24) = x at *
  obtain ⟨x0, x1, x2⟩ : x.cell? ⟨w.heap.size, 0, none⟩ = some (.slice a c.l.length ca) ∧ x.cell? ⟨w.heap.size, 1, none⟩ = some (.int .i64 c.lo) ∧ x.cell? ⟨w.heap.size, 2, none⟩ = some (.int .i64 c.un) := ⟨k1.cell 0, k1.cell 1, k1.cell 2⟩
  obtain ⟨y0, y1, y2⟩ : x.cell? ⟨w.heap.size + 1, 0, none⟩ = some (.slice b d.l.length cb) ∧ x.cell? ⟨w.heap.size + 1, 1, none⟩ = some (.int .i64 d.lo) ∧ x.cell? ⟨w.heap.size + 1, 2, none⟩ = some (.int .i64 d.un) := ⟨k2.cell 0, k2.cell 1, k2.cell 2⟩
  by_cases h1 : 80 < c.l.length
  · have i1 : (80 : Int) < c.l.length := by omega
    go_wp2_with fail
    refine (HW.out _ (L.below b0)).mono ?_
    rintro e z ⟨rfl, hz⟩
    go_wp2
    go_ret
    exact ⟨rfl, b0.trans (hz.mono b0.size)⟩
  have i1 : ¬ (80 : Int) < c.l.length := by omega
  by_cases h2 : 80 < d.l.length
  · have i2 : (80 : Int) < d.l.length := by omega
    go_wp2_with fail
    refine (HW.out _ (L.below b0)).mono ?_
    rintro e z ⟨rfl, hz⟩
    go_wp2
    go_ret
    exact ⟨rfl, b0.trans (hz.mono b0.size)⟩
  have i2 : ¬ (80 : Int) < d.l.length := by omega
  go_upto_region 3 with fail
  refine wp_region_each (fun vs => { tmps := #[.agg #[.slice a c.l.length ca, .int .i64 c.lo, .int .i64 c.un], .agg #[.slice b d.l.length cb, .int .i64 d.lo, .int .i64 d.un], .pointer (some ⟨w.heap.size, 0, none⟩), .pointer (some ⟨w.heap.size + 1, 0, none⟩), .bool false, undef, undef, undef, .pointer (some ⟨w.heap.size, 0, none⟩), .slice a c.l.length ca, .int .i64 c.l.length, .bool false, .bool false, .pointer (some ⟨w.heap.size + 1, 0, none⟩), .slice b d.l.length cb, .int .i64 d.l.length, .bool false, .bool false, undef, vs 0, vs 1, vs 2, vs 3, vs 4, vs 5, vs 6, vs 7, vs 8, undef, undef, undef, undef, undef, undef, undef, undef, undef, undef, undef, undef, undef, undef, undef, undef, undef, undef, undef, undef, undef, undef, undef, undef, undef, undef, undef, undef, undef, undef, undef, undef, undef, undef], defers := [] }) (F3 c d (.agg #[.slice a c.l.length ca, .int .i64 c.lo, .int .i64 c.un]) (.agg #[.slice b d.l.length cb, .int .i64 d.lo, .int .i64 d.un])) ?ghm ?ghr ?glit ?gstable ?gops ?gdone
  case ghm => kernel_rfl
  case ghr => rfl
  case glit => intro vs; rfl
  case gstable => exact F3_stable
  case gops =>
    have hvW : Hid (∀ W, Below x.heap.size x W → Pv W (.agg #[.slice a c.l.length ca, .int .i64 c.lo, .int .i64 c.un]) c) := Lib.hid fun W hW => hv2.below (b0.trans (hW.mono b0.size))
    have huW : Hid (∀ W, Below x.heap.size x W → Pv W (.agg #[.slice b d.l.length cb, .int .i64 d.lo, .int .i64 d.un]) d) := Lib.hid fun W hW => hu2.below (b0.trans (hW.mono b0.size))
    have HX : Hid (∀ W, Below x.heap.size x W → W.cell? ⟨w.heap.size, 0, none⟩ = some (.slice a c.l.length ca) ∧ W.cell? ⟨w.heap.size, 1, none⟩ = some (.int .i64 c.lo) ∧ W.cell? ⟨w.heap.size, 2, none⟩ = some (.int .i64 c.un)) := Lib.hid fun W hW => ⟨(hW.cell (p := ⟨w.heap.size, 0, none⟩) k1.lt).trans x0, (hW.cell (p := ⟨w.heap.size, 1, none⟩) k1.lt).trans x1, (hW.cell (p := ⟨w.heap.size, 2, none⟩) k1.lt).trans x2⟩
    have HY : Hid (∀ W, Below x.heap.size x W → W.cell? ⟨w.heap.size + 1, 0, none⟩ = some (.slice b d.l.length cb) ∧ W.cell? ⟨w.heap.size + 1, 1, none⟩ = some (.int .i64 d.lo) ∧ W.cell? ⟨w.heap.size + 1, 2, none⟩ = some (.int .i64 d.un)) := Lib.hid fun W hW => ⟨(hW.cell (p := ⟨w.heap.size + 1, 0, none⟩) k2.lt).trans y0, (hW.cell (p := ⟨w.heap.size + 1, 1, none⟩) k2.lt).trans y1, (hW.cell (p := ⟨w.heap.size + 1, 2, none⟩) k2.lt).trans y2⟩
    clear x0 x1 x2 y0 y1 y2 k1 k2 ha hb hv2 hu2 HW
    refine ⟨?_, ?_, ?_, ?_, ?_, ?_, ?_, ?_, ?_, trivial⟩
    · intro vs W hW hd
      refine leaves_free rfl ?_
      obtain ⟨c0, c1, c2⟩ := HX.out W hW
      go_simp
      exact ⟨rfl, Below.refl _ _⟩
    · intro vs W hW hd
      refine leaves_free rfl ?_
      obtain ⟨c0, c1, c2⟩ := HY.out W hW
      go_simp
      exact ⟨rfl, Below.refl _ _⟩
    · intro vs W hW hd
      refine leaves_free rfl ?_
      obtain ⟨e0, e1⟩ : vs 0 = _ ∧ vs 1 = _ := ⟨hd 0 (by decide), hd 1 (by decide)⟩
      go_simp
      exact (cSame c d _ _ W (hvW.out W hW) (huW.out W hW) (by omega)).mono fun e y ⟨he, hy⟩ => ⟨_, he, rfl, hy⟩
    · intro vs W hW hd
      refine leaves_free rfl ?_
      obtain ⟨c0, c1, c2⟩ := HX.out W hW
      go_simp
      exact ⟨rfl, Below.refl _ _⟩
    · intro vs W hW hd
      refine leaves_free rfl ?_
      obtain e0 : vs 3 = _ := hd 3 (by decide)
      go_simp
      exact (lRef c _ W (hvW.out W hW) (by omega)).mono fun e y ⟨v, he, hp, hy⟩ => ⟨v, he, hp, hy⟩
    · intro vs W hW hd
      refine leaves_free rfl ?_
      obtain ⟨c0, c1, c2⟩ := HY.out W hW
      go_simp
      exact ⟨rfl, Below.refl _ _⟩
    · intro vs W hW hd
      refine leaves_free rfl ?_
      obtain e0 : vs 5 = _ := hd 5 (by decide)
      go_simp
      exact (lRef d _ W (huW.out W hW) (by omega)).mono fun e y ⟨v, he, hp, hy⟩ => ⟨v, he, hp, hy⟩
    · intro vs W hW hd
      refine leaves_free rfl ?_
      have p4 : Pv W (vs 4) c := hd 4 (by decide)
      have p6 : Pv W (vs 6) d := hd 6 (by decide)
      clear hd
      have HS := Lib.hid (rSame c d _ _ W p4 p6 (by omega))
      clear p4 p6
      go_simp
      refine HS.out.mono ?_
      rintro e y ⟨he, hy⟩
      exact ⟨_, he, rfl, hy⟩
    · intro vs W hW hd
      refine leaves_free rfl ?_
      obtain ⟨e2, e7⟩ : vs 2 = _ ∧ vs 7 = _ := ⟨hd 2 (by decide), hd 7 (by decide)⟩
      generalize sameP c d = sm at *
      go_simp
      exact ⟨by cases sm <;> rfl, Below.refl _ _⟩
  case gdone =>
    intro vs W hW hf
    obtain ⟨f0, f1, f2, f3, f5, f7, f8⟩ : vs 0 = _ ∧ vs 1 = _ ∧ vs 2 = _ ∧ vs 3 = _ ∧ vs 5 = _ ∧ vs 7 = _ ∧ vs 8 = _ := ⟨hf 0 (by decide), hf 1 (by decide), hf 2 (by decide), hf 3 (by decide), hf 5 (by decide), hf 7 (by decide), hf 8 (by decide)⟩
    clear hf
    simp only [f0, f1, f2, f3, f5, f7, f8]
    generalize vs 4 = r4
    generalize vs 6 = r6
    clear f0 f1 f2 f3 f5 f7 f8 vs
    replace k1 : Bk W _ _ _ := (hW.block _ k1.lt).trans k1
    replace k2 : Bk W _ _ _ := (hW.block _ k2.lt).trans k2
    replace b0 := b0.trans (hW.mono b0.size)
    clear x0 x1 x2 y0 y1 y2 hW
    obtain ⟨x0, x1, x2⟩ : W.cell? ⟨w.heap.size, 0, none⟩ = some (.slice a c.l.length ca) ∧ W.cell? ⟨w.heap.size, 1, none⟩ = some (.int .i64 c.lo) ∧ W.cell? ⟨w.heap.size, 2, none⟩ = some (.int .i64 c.un) := ⟨k1.cell 0, k1.cell 1, k1.cell 2⟩
    have HR := Lib.hid (lRef c _ W (hv2.below b0) (by omega))
    go_wp2_with fail
    refine HR.out.mono ?_
    rintro e W1 ⟨v1, rfl, hP1, hb1⟩
    have hP1' := hP1
    obtain ⟨a3, ca3, rfl, _, _, _, ha3⟩ := hP1'
    go_upto_region 6 with fail
    replace k1 : Bk W1 _ _ _ := (hb1.block _ k1.lt).trans k1
    replace b0 := b0.trans (hb1.mono b0.size)
    have k5 := Bk.made W1 30 #[.slice a3 c.l.length ca3, .int .i64 c.lo, .int .i64 c.un]
    replace k1 := k1.alloc (.cells #[.slice a3 c.l.length ca3, .int .i64 c.lo, .int .i64 c.un] 30)
    have hA : Below W1.heap.size W1 (W1.alloc (.cells #[.slice a3 c.l.length ca3, .int .i64 c.lo, .int .i64 c.un] 30)) := (Below.refl _ _).alloc (Nat.le_refl _) _
    replace hP1 := hP1.below hA
    replace b0 := b0.trans (hA.mono b0.size)
    generalize W1.alloc (.cells #[.slice a3 c.l.length ca3, .int .i64 c.lo, .int .i64 c.un] 30) = W2 at *
    generalize W1.heap.size = T5 at *
    clear x0 x1 x2 hA hb1 HR k2
    obtain ⟨x0, x1, x2⟩ : W2.cell? ⟨w.heap.size, 0, none⟩ = some (.slice a c.l.length ca) ∧ W2.cell? ⟨w.heap.size, 1, none⟩ = some (.int .i64 c.lo) ∧ W2.cell? ⟨w.heap.size, 2, none⟩ = some (.int .i64 c.un) := ⟨k1.cell 0, k1.cell 1, k1.cell 2⟩
    have HR := Lib.hid (cCopy c _ W2 (hv2.below b0) (by omega))
    go_wp2_with fail
    refine HR.out.mono ?_
    rintro e W3 ⟨v3, rfl, ⟨sl, rfl, hO⟩, hb3⟩
    obtain ⟨a4, ca4, rfl, hca4, hma4, hg4⟩ := own_is hO
    have hP2 := hP1
    have hB2 := hb3
    go_upto_region 7 with fail
    replace k1 : Bk W3 _ _ _ := (hb3.block _ k1.lt).trans k1
    replace k5 : Bk W3 _ _ _ := (hb3.block _ k5.lt).trans k5
    have hbw := b0.size
    replace b0 := b0.trans (hb3.mono b0.size)
    replace hP1 := hP1.below hb3
    have k6 := Bk.made W3 24 #[.slice a4 c.l.length ca4, .int .i64 c.lo, .int .i64 c.un]
    replace k1 := k1.alloc (.cells #[.slice a4 c.l.length ca4, .int .i64 c.lo, .int .i64 c.un] 24)
    replace k5 := k5.alloc (.cells #[.slice a4 c.l.length ca4, .int .i64 c.lo, .int .i64 c.un] 24)
    have hA : Below W3.heap.size W3 (W3.alloc (.cells #[.slice a4 c.l.length ca4, .int .i64 c.lo, .int .i64 c.un] 24)) := (Below.refl _ _).alloc (Nat.le_refl _) _
    replace hP1 := hP1.below hA
    replace hB2 := hB2.trans (hA.mono hB2.size)
    replace hO := World.ownsRow.alloc hO (.cells #[.slice a4 c.l.length ca4, .int .i64 c.lo, .int .i64 c.un] 24)
    replace b0 := b0.trans (hA.mono b0.size)
    generalize W3.alloc (.cells #[.slice a4 c.l.length ca4, .int .i64 c.lo, .int .i64 c.un] 24) = X at *
    generalize W3.heap.size = T6 at *
    clear x0 x1 x2 hA hb3 HR hg4
    have hP4 : Pv X (.agg #[.slice a4 c.l.length ca4, .int .i64 c.lo, .int .i64 c.un]) c := Pg.pv ⟨_, rfl, hO⟩
    have HSM : Hid (sameP c c = true) := Lib.hid ((sameP_iff c c).2 rfl)
    refine wp_region_each (fun vs => { tmps := #[.agg #[.slice a c.l.length ca, .int .i64 c.lo, .int .i64 c.un], .agg #[.slice b d.l.length cb, .int .i64 d.lo, .int .i64 d.un], .pointer (some ⟨w.heap.size, 0, none⟩), .pointer (some ⟨w.heap.size + 1, 0, none⟩), .bool false, .pointer (some ⟨T5, 0, none⟩), .pointer (some ⟨T6, 0, none⟩), undef, .pointer (some ⟨w.heap.size, 0, none⟩), .slice a c.l.length ca, .int .i64 (c.l.length : Int), .bool false, .bool false, .pointer (some ⟨w.heap.size + 1, 0, none⟩), .slice b d.l.length cb, .int .i64 (d.l.length : Int), .bool false, .bool false, undef, .agg #[.slice a c.l.length ca, .int .i64 c.lo, .int .i64 c.un], .agg #[.slice b d.l.length cb, .int .i64 d.lo, .int .i64 d.un], .bool (sameP c d), .agg #[.slice a c.l.length ca, .int .i64 c.lo, .int .i64 c.un], r4, .agg #[.slice b d.l.length cb, .int .i64 d.lo, .int .i64 d.un], r6, .bool (sameP c d), .bool false, .agg #[.slice a c.l.length ca, .int .i64 c.lo, .int .i64 c.un], .agg #[.slice a3 c.l.length ca3, .int .i64 c.lo, .int .i64 c.un], .agg #[.slice a c.l.length ca, .int .i64 c.lo, .int .i64 c.un], .agg #[.slice a4 c.l.length ca4, .int .i64 c.lo, .int .i64 c.un], vs 0, vs 1, vs 2, vs 3, vs 4, vs 5, vs 6, vs 7, vs 8, vs 9, vs 10, undef, undef, undef, undef, undef, undef, undef, undef, undef, undef, undef, undef, undef, undef, undef, undef, undef, undef, undef], defers := [] }) (F7 c (.agg #[.slice a c.l.length ca, .int .i64 c.lo, .int .i64 c.un]) (.agg #[.slice a3 c.l.length ca3, .int .i64 c.lo, .int .i64 c.un]) (.agg #[.slice a4 c.l.length ca4, .int .i64 c.lo, .int .i64 c.un])) ?ghm ?ghr ?glit ?gstable ?gops ?gdone
    case ghm => kernel_rfl
    case ghr => rfl
    case glit => intro vs; rfl
    case gstable => exact F7_stable
    case gops =>
      have hvW : Hid (∀ W, Below X.heap.size X W → Pv W (.agg #[.slice a c.l.length ca, .int .i64 c.lo, .int .i64 c.un]) c) := Lib.hid fun W hW => hv2.below (b0.trans (hW.mono b0.size))
      have h3W : Hid (∀ W, Below X.heap.size X W → Pv W (.agg #[.slice a3 c.l.length ca3, .int .i64 c.lo, .int .i64 c.un]) c) := Lib.hid fun W hW => hP1.below hW
      have h4W : Hid (∀ W, Below X.heap.size X W → Pv W (.agg #[.slice a4 c.l.length ca4, .int .i64 c.lo, .int .i64 c.un]) c) := Lib.hid fun W hW => hP4.below hW
      have H1 : Hid (∀ W, Below X.heap.size X W → Bk W w.heap.size 24 #[.slice a c.l.length ca, .int .i64 c.lo, .int .i64 c.un]) := Lib.hid fun W hW => (hW.block _ k1.lt).trans k1
      have H5 : Hid (∀ W, Below X.heap.size X W → Bk W T5 30 #[.slice a3 c.l.length ca3, .int .i64 c.lo, .int .i64 c.un]) := Lib.hid fun W hW => (hW.block _ k5.lt).trans k5
      have H6 : Hid (∀ W, Below X.heap.size X W → Bk W T6 24 #[.slice a4 c.l.length ca4, .int .i64 c.lo, .int .i64 c.un]) := Lib.hid fun W hW => (hW.block _ k6.lt).trans k6
      clear k1 k5 k6 hO hP1 hP4 ha hb hv2 hu2 HW ha3
      refine ⟨?_, ?_, ?_, ?_, ?_, ?_, ?_, ?_, ?_, ?_, ?_, trivial⟩
      · intro vs W hW hd
        refine leaves_free rfl ?_
        have k := H6.out W hW
        obtain ⟨c0, c1, c2⟩ : W.cell? ⟨T6, 0, none⟩ = some (.slice a4 c.l.length ca4) ∧ W.cell? ⟨T6, 1, none⟩ = some (.int .i64 c.lo) ∧ W.cell? ⟨T6, 2, none⟩ = some (.int .i64 c.un) := ⟨k.cell 0, k.cell 1, k.cell 2⟩
        go_simp
        exact ⟨rfl, Below.refl _ _⟩
      · intro vs W hW hd
        refine leaves_free rfl ?_
        have HS := Lib.hid (lRef c _ W (h4W.out W hW) (by omega))
        obtain e0 : vs 0 = _ := hd 0 (by decide)
        go_simp
        refine HS.out.mono ?_
        rintro e y ⟨v, he, hp, hy⟩
        exact ⟨v, he, hp, hy⟩
      · intro vs W hW hd
        refine leaves_free rfl ?_
        have k := H5.out W hW
        obtain ⟨c0, c1, c2⟩ : W.cell? ⟨T5, 0, none⟩ = some (.slice a3 c.l.length ca3) ∧ W.cell? ⟨T5, 1, none⟩ = some (.int .i64 c.lo) ∧ W.cell? ⟨T5, 2, none⟩ = some (.int .i64 c.un) := ⟨k.cell 0, k.cell 1, k.cell 2⟩
        go_simp
        exact ⟨rfl, Below.refl _ _⟩
      · intro vs W hW hd
        refine leaves_free rfl ?_
        have p1 : Pv W (vs 1) c := hd 1 (by decide)
        obtain e2 : vs 2 = _ := hd 2 (by decide)
        have HS := Lib.hid (rSame c c _ _ W p1 (h3W.out W hW) (by omega))
        clear hd p1
        go_simp
        refine HS.out.mono ?_
        rintro e y ⟨he, hy⟩
        rw [HSM.out] at he
        exact ⟨_, he, rfl, hy⟩
      · intro vs W hW hd
        refine leaves_free rfl ?_
        obtain e3 : vs 3 = _ := hd 3 (by decide)
        go_simp
        exact ⟨rfl, Below.refl _ _⟩
      · intro vs W hW hd
        refine leaves_free rfl ?_
        obtain e4 : vs 4 = _ := hd 4 (by decide)
        go_simp
        exact ⟨rfl, Below.refl _ _⟩
      · intro vs W hW hd
        obtain e5 : vs 5 = _ := hd 5 (by decide)
        refine leaves_guard rfl (by show (match some (vs 5) with | some (.bool b) => some b | _ => none) = some false; rw [e5]) ?_
        have k := H6.out W hW
        obtain ⟨c0, c1, c2⟩ : W.cell? ⟨T6, 0, none⟩ = some (.slice a4 c.l.length ca4) ∧ W.cell? ⟨T6, 1, none⟩ = some (.int .i64 c.lo) ∧ W.cell? ⟨T6, 2, none⟩ = some (.int .i64 c.un) := ⟨k.cell 0, k.cell 1, k.cell 2⟩
        go_simp
        exact ⟨rfl, Below.refl _ _⟩
      · intro vs W hW hd
        obtain e5 : vs 5 = _ := hd 5 (by decide)
        refine leaves_guard rfl (by show (match some (vs 5) with | some (.bool b) => some b | _ => none) = some false; rw [e5]) ?_
        have k := H1.out W hW
        obtain ⟨c0, c1, c2⟩ : W.cell? ⟨w.heap.size, 0, none⟩ = some (.slice a c.l.length ca) ∧ W.cell? ⟨w.heap.size, 1, none⟩ = some (.int .i64 c.lo) ∧ W.cell? ⟨w.heap.size, 2, none⟩ = some (.int .i64 c.un) := ⟨k.cell 0, k.cell 1, k.cell 2⟩
        go_simp
        exact ⟨rfl, Below.refl _ _⟩
      · intro vs W hW hd
        obtain e5 : vs 5 = _ := hd 5 (by decide)
        refine leaves_guard rfl (by show (match some (vs 5) with | some (.bool b) => some b | _ => none) = some false; rw [e5]) ?_
        obtain ⟨e6, e7⟩ : vs 6 = _ ∧ vs 7 = _ := ⟨hd 6 (by decide), hd 7 (by decide)⟩
        have HS := Lib.hid (cSame c c _ _ W (h4W.out W hW) (hvW.out W hW) (by omega))
        go_simp
        refine HS.out.mono ?_
        rintro e y ⟨he, hy⟩
        rw [HSM.out] at he
        exact ⟨_, he, rfl, hy⟩
      · intro vs W hW hd
        obtain e5 : vs 5 = _ := hd 5 (by decide)
        refine leaves_guard rfl (by show (match some (vs 5) with | some (.bool b) => some b | _ => none) = some false; rw [e5]) ?_
        obtain e8 : vs 8 = _ := hd 8 (by decide)
        go_simp
        exact ⟨rfl, Below.refl _ _⟩
      · intro vs W hW hd
        refine leaves_free rfl ?_
        obtain ⟨e5, e9⟩ : vs 5 = _ ∧ vs 9 = _ := ⟨hd 5 (by decide), hd 9 (by decide)⟩
        go_simp
        exact ⟨rfl, Below.refl _ _⟩
    case gdone =>
      intro vs W hW hf
      obtain ⟨f0, f2, f3, f4, f5, f6, f7, f8, f9, f10⟩ : vs 0 = _ ∧ vs 2 = _ ∧ vs 3 = _ ∧ vs 4 = _ ∧ vs 5 = _ ∧ vs 6 = _ ∧ vs 7 = _ ∧ vs 8 = _ ∧ vs 9 = _ ∧ vs 10 = _ := ⟨hf 0 (by decide), hf 2 (by decide), hf 3 (by decide), hf 4 (by decide), hf 5 (by decide), hf 6 (by decide), hf 7 (by decide), hf 8 (by decide), hf 9 (by decide), hf 10 (by decide)⟩
      clear hf
      simp only [f0, f2, f3, f4, f5, f6, f7, f8, f9, f10]
      generalize vs 1 = r1
      clear f0 f2 f3 f4 f5 f6 f7 f8 f9 f10 vs
      replace k1 : Bk W _ _ _ := (hW.block _ k1.lt).trans k1
      replace k5 : Bk W _ _ _ := (hW.block _ k5.lt).trans k5
      replace k6 : Bk W _ _ _ := (hW.block _ k6.lt).trans k6
      replace hP1 := hP1.below hW
      replace hO := own_within hO (within_of_below hW) (by simp)
      replace b0 := b0.trans (hW.mono b0.size)
      replace hB2 := hB2.trans (hW.mono hB2.size)
      clear hW hP4
      have z0 : W.cell? ⟨T6, 0, none⟩ = some (.slice a4 c.l.length ca4) := k6.cell 0
      go_wp2
      go_loopw [46] (fun i wr => ∃ (k : Nat) (xs : List Value), i = .int .i64 k ∧ k ≤ c.l.length ∧ Within W wr (fun b => some b = (Value.slice a4 c.l.length ca4).ownBlock) ∧ wr.ownsRow W2.heap.size 35 8 (.slice a4 c.l.length ca4) c.l.length xs) (fun i _ => c.l.length - (intOf i).toNat)
      case atStart => exact ⟨0, _, rfl, Nat.zero_le _, Within.refl _ _, hO⟩
      case round =>
        obtain ⟨k, xs, rfl, hk, hWi, hOw⟩ := hrel
        have hun : ∀ {g : Nat} {t : TypeId} {cs : Array Value}, Bk W g t cs → t ≠ 35 → Bk wr g t cs := fun hb ht => hb.within hWi fun e => by
          obtain ⟨cs, hcs⟩ := own_bk hO e.symm
          exact Bk.unlike hcs hb (fun e => ht e.symm) rfl
        have q6 := hun k6 (by decide)
        have z1 : wr.cell? ⟨T6, 0, none⟩ = some (.slice a4 c.l.length ca4) := q6.cell 0
        clear z0
        by_cases hlt : k < c.l.length
        · have hki : (k : Int) < c.l.length := by omega
          obtain ⟨a5, ca5, e5, _, _, hg⟩ := own_is hOw
          simp only [Value.slice.injEq] at e5
          obtain ⟨rfl, -, rfl⟩ := e5
          obtain ⟨g, rfl, hgo, _, _, hfz, hcl⟩ := hg (by omega)
          have hxl := hOw.1
          have hc8 : ∀ j, j < 8 → ∃ y, wr.cell? ⟨g, k * 8 + j, none⟩ = some y := fun j hj => by
            have hlt2 : k * 8 + j < xs.length := by omega
            exact ⟨xs[k * 8 + j], (hcl _ (by omega)).trans (List.getElem?_eq_getElem hlt2)⟩
          obtain ⟨u0, e0⟩ := hc8 0 (by omega)
          obtain ⟨u1, e1⟩ := hc8 1 (by omega)
          obtain ⟨u2, e2⟩ := hc8 2 (by omega)
          obtain ⟨u3, e3⟩ := hc8 3 (by omega)
          obtain ⟨u4, e4⟩ := hc8 4 (by omega)
          obtain ⟨u5, e5⟩ := hc8 5 (by omega)
          obtain ⟨u6, e6⟩ := hc8 6 (by omega)
          obtain ⟨u7, e7⟩ := hc8 7 (by omega)
          rw [Nat.add_zero] at e0
          have HEND : Hid (∃ ys, (put8At wr g (k * 8) (.int .i64 99) (.int .i64 0) (.int .i64 0) (.int .i64 0) (.int .i64 0) (.int .i64 0) (.int .u32 0) (.int .i64 0)).ownsRow W2.heap.size 35 8 (.slice (some ⟨g, 0, none⟩) c.l.length ca4) c.l.length ys ∧ Within wr (put8At wr g (k * 8) (.int .i64 99) (.int .i64 0) (.int .i64 0) (.int .i64 0) (.int .i64 0) (.int .i64 0) (.int .u32 0) (.int .i64 0)) (fun b => b = g)) := Lib.hid (put8At_own hOw _ _ _ _ _ _ _ _ _)
          clear hg hc8 hcl hOw hxl hO hun
          go_wp2
          obtain ⟨ys, s1, s2⟩ := HEND.out
          go_roundw
          case rel => exact ⟨k + 1, ys, by go_num, by omega, hWi.then_ s2 (by rintro i rfl; exact .inl rfl), s1⟩
          case measure =>
            show c.l.length - ((k : Int) + 1).toNat < c.l.length - (k : Int).toNat
            omega
        · have hki : ¬ (k : Int) < c.l.length := by omega
          have q1 := hun k1 (by decide)
          have q5 := hun k5 (by decide)
          have hBr : Below W2.heap.size W2 wr := hB2.trans (below_of_within hWi (B := W2.heap.size) (fun b e => (World.ownsRow.lt hO b e.symm).1) hB2.size)
          have hbr : Below w.heap.size w wr := b0.trans (below_of_within hWi (B := w.heap.size) (fun b e => Nat.le_trans hbw (World.ownsRow.lt hO b e.symm).1) b0.size)
          have p3 := hP2.below hBr
          have p1 := hv2.below hbr
          clear hun hO hOw hWi k1 k5 k6 hP1 hP2 hB2 b0 q6 hBr
          go_upto_region 14 with fail
          refine wp_region_each (fun vs => { tmps := #[.agg #[.slice a c.l.length ca, .int .i64 c.lo, .int .i64 c.un], .agg #[.slice b d.l.length cb, .int .i64 d.lo, .int .i64 d.un], .pointer (some ⟨w.heap.size, 0, none⟩), .pointer (some ⟨w.heap.size + 1, 0, none⟩), vs 7, .pointer (some ⟨T5, 0, none⟩), .pointer (some ⟨T6, 0, none⟩), u7, .pointer (some ⟨w.heap.size, 0, none⟩), .slice a c.l.length ca, .int .i64 (c.l.length : Int), .bool false, .bool false, .pointer (some ⟨w.heap.size + 1, 0, none⟩), .slice b d.l.length cb, .int .i64 (d.l.length : Int), .bool false, .bool false, undef, .agg #[.slice a c.l.length ca, .int .i64 c.lo, .int .i64 c.un], .agg #[.slice b d.l.length cb, .int .i64 d.lo, .int .i64 d.un], .bool (sameP c d), .agg #[.slice a c.l.length ca, .int .i64 c.lo, .int .i64 c.un], r4, .agg #[.slice b d.l.length cb, .int .i64 d.lo, .int .i64 d.un], r6, .bool (sameP c d), .bool false, .agg #[.slice a c.l.length ca, .int .i64 c.lo, .int .i64 c.un], .agg #[.slice a3 c.l.length ca3, .int .i64 c.lo, .int .i64 c.un], .agg #[.slice a c.l.length ca, .int .i64 c.lo, .int .i64 c.un], .agg #[.slice a4 c.l.length ca4, .int .i64 c.lo, .int .i64 c.un], .agg #[.slice a4 c.l.length ca4, .int .i64 c.lo, .int .i64 c.un], r1, .agg #[.slice a3 c.l.length ca3, .int .i64 c.lo, .int .i64 c.un], .bool true, .bool false, .bool false, .agg #[.slice a4 c.l.length ca4, .int .i64 c.lo, .int .i64 c.un], .agg #[.slice a c.l.length ca, .int .i64 c.lo, .int .i64 c.un], .bool true, .bool false, .bool false, .pointer (some ⟨T6, 0, none⟩), .slice a4 c.l.length ca4, .int .i64 (c.l.length : Int), .int .i64 (k : Int), .bool false, u48, u49, u50, u51, u52, u53, u54, vs 0, vs 1, vs 2, vs 3, vs 4, vs 5, vs 6], defers := [] }) (F14 c (.agg #[.slice a c.l.length ca, .int .i64 c.lo, .int .i64 c.un]) (.agg #[.slice a3 c.l.length ca3, .int .i64 c.lo, .int .i64 c.un])) ?ghm ?ghr ?glit ?gstable ?gops ?gdone
          case ghm => kernel_rfl
          case ghr => rfl
          case glit => intro vs; rfl
          case gstable => exact F14_stable
          case gops =>
            have hvW : Hid (∀ W, Below wr.heap.size wr W → Pv W (.agg #[.slice a c.l.length ca, .int .i64 c.lo, .int .i64 c.un]) c) := Lib.hid fun W hW => p1.below hW
            have h3W : Hid (∀ W, Below wr.heap.size wr W → Pv W (.agg #[.slice a3 c.l.length ca3, .int .i64 c.lo, .int .i64 c.un]) c) := Lib.hid fun W hW => p3.below hW
            have H1 : Hid (∀ W, Below wr.heap.size wr W → Bk W w.heap.size 24 #[.slice a c.l.length ca, .int .i64 c.lo, .int .i64 c.un]) := Lib.hid fun W hW => (hW.block _ q1.lt).trans q1
            have H5 : Hid (∀ W, Below wr.heap.size wr W → Bk W T5 30 #[.slice a3 c.l.length ca3, .int .i64 c.lo, .int .i64 c.un]) := Lib.hid fun W hW => (hW.block _ q5.lt).trans q5
            have HLW : Hid (∀ W, Below wr.heap.size wr W → Lb W) := Lib.hid fun W hW => L.below (hbr.trans (hW.mono hbr.size))
            clear q1 q5 p1 p3 ha hb hv2 hu2 ha3 L
            refine ⟨?_, ?_, ?_, ?_, ?_, ?_, ?_, ?_, trivial⟩
            · intro vs W hW hd
              refine leaves_free rfl ?_
              have k := H1.out W hW
              obtain ⟨c0, c1, c2⟩ : W.cell? ⟨w.heap.size, 0, none⟩ = some (.slice a c.l.length ca) ∧ W.cell? ⟨w.heap.size, 1, none⟩ = some (.int .i64 c.lo) ∧ W.cell? ⟨w.heap.size, 2, none⟩ = some (.int .i64 c.un) := ⟨k.cell 0, k.cell 1, k.cell 2⟩
              go_simp
              exact ⟨rfl, Below.refl _ _⟩
            · intro vs W hW hd
              refine leaves_free rfl ?_
              have HS := Lib.hid (lRef c _ W (hvW.out W hW) (by omega))
              obtain e0 : vs 0 = _ := hd 0 (by decide)
              go_simp
              refine HS.out.mono ?_
              rintro e y ⟨v, he, hp, hy⟩
              exact ⟨v, he, hp, hy⟩
            · intro vs W hW hd
              refine leaves_free rfl ?_
              have k := H5.out W hW
              obtain ⟨c0, c1, c2⟩ : W.cell? ⟨T5, 0, none⟩ = some (.slice a3 c.l.length ca3) ∧ W.cell? ⟨T5, 1, none⟩ = some (.int .i64 c.lo) ∧ W.cell? ⟨T5, 2, none⟩ = some (.int .i64 c.un) := ⟨k.cell 0, k.cell 1, k.cell 2⟩
              go_simp
              exact ⟨rfl, Below.refl _ _⟩
            · intro vs W hW hd
              refine leaves_free rfl ?_
              have p9 : Pv W (vs 1) c := hd 1 (by decide)
              obtain e2 : vs 2 = _ := hd 2 (by decide)
              have HS := Lib.hid (rSame c c _ _ W p9 (h3W.out W hW) (by omega))
              clear hd p9
              go_simp
              refine HS.out.mono ?_
              rintro e y ⟨he, hy⟩
              rw [HSM.out] at he
              exact ⟨_, he, rfl, hy⟩
            · intro vs W hW hd
              refine leaves_free rfl ?_
              obtain e3 : vs 3 = _ := hd 3 (by decide)
              go_simp
              exact ⟨rfl, Below.refl _ _⟩
            · intro vs W hW hd
              obtain e4 : vs 4 = _ := hd 4 (by decide)
              refine leaves_guard rfl (by show (match some (vs 4) with | some (.bool b) => some b | _ => none) = some true; rw [e4]) ?_
              have HS := Lib.hid (HW.out W (HLW.out W hW))
              go_simp
              refine HS.out.mono ?_
              rintro e y ⟨he, hy⟩
              exact ⟨_, he, rfl, hy⟩
            · intro vs W hW hd
              refine leaves_free rfl ?_
              obtain ⟨e4, e5⟩ : vs 4 = _ ∧ vs 5 = _ := ⟨hd 4 (by decide), hd 5 (by decide)⟩
              go_simp
              exact ⟨rfl, Below.refl _ _⟩
            · intro vs W hW hd
              refine leaves_free rfl ?_
              obtain e6 : vs 6 = _ := hd 6 (by decide)
              go_simp
              exact ⟨rfl, Below.refl _ _⟩
          case gdone =>
            intro vs W hW hf
            obtain f7 : vs 7 = _ := hf 7 (by decide)
            simp only [f7]
            go_wp2
            go_ret
            exact ⟨rfl, hbr.trans (hW.mono hbr.size)⟩
end Go.Proofs.YteohnkilchkhkaaDoor.asmCopies
