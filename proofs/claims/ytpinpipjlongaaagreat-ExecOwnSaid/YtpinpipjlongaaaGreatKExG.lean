/- ExG. -/
import Derived.Test.YtpinpipjlongaaaGreatKExF
import Derived.Test.YtpinpipjlongaaaGreatKCoreV
/- Layer 10 (exec): Step. -/
namespace Go.Proofs.YtpinpipjlongaaaGreat
set_option maxRecDepth 100000
open Go.ChangeShapes Go.WideShapes Go.ChangeAt Go.RowKit
set_option linter.unusedVariables false

/-- One block has changed, which holds no ints. -/
def SafeStep (W W2 : World) : Prop := ∃ b t cs, Bk W b t cs ∧ t ≠ 3 ∧ Within W W2 (fun i => i = b)
theorem SafeStep.lst {W W2 : World} {m : Value} {ms : List Int} (h : SafeStep W W2) (hl : Lst .i64 3 W m ms) : Lst .i64 3 W2 m ms := by
  obtain ⟨b, t, cs, h1, h2, h3⟩ := h
  exact lst_within hl h3 (by rintro b' rfl; exact ⟨t, cs, h1, h2⟩)
theorem XStays.far' {v w w' : World} {N : Nat} {X X' : XP} {S : Nat → Prop} (h : XStays v N X w X') (hw : Within w w' S) (hs : ∀ i, S i → v.heap.size ≤ i) : XStays v N X w' X' :=
  ⟨h.1.then_ hw (fun i e => .inr (hs i e)), h.2.1, h.2.2⟩
/-- What a step has all the while: the lock, and the result's block. -/
structure StB (w : World) (X X' : XP) (k : Lk) (m : Mc) (W : World) : Prop where
  ex : Ex W X' k m
  st : XStays w k.n X W X'
  q : Bk W w.heap.size 51 #[.slice none 0 0, .int .i64 0, .int .i64 0, .bool false, .bool false, .int .i64 0]
/-- The blocks of its own: none of them is the lock's. -/
structure Frr (w : World) (X' : XP) (n b9 b10 : Nat) : Prop where
  far : ∀ i, X'.Own n i → i ≠ w.heap.size ∧ i ≠ b9 ∧ i ≠ b10
  n9 : w.heap.size < b9
  n10 : b9 < b10
def StW (w : World) (X X' : XP) (k : Lk) (m : Mc) (b9 b10 : Nat) (c0 c1 : Cor) (ad : Int) (wr : Bool) (ms : List Int) (D E : Int) : Nat → World → Prop
  | 0, W => StB w X X' k m W ∧ Cb W b9 c0.xs c0.pc ∧ Bk W b10 51 #[.slice none 0 0, .int .i64 (-1), .int .i64 ad, .bool wr, .bool false, .int .i64 0]
  | 1, W => StB w X X' k m W ∧ Cb W b9 c1.xs c1.pc ∧ Bk W b10 51 #[.slice none 0 0, .int .i64 (-1), .int .i64 ad, .bool wr, .bool false, .int .i64 0]
  | 2, W => StB w X X' k m W ∧ Cb W b9 c1.xs c1.pc ∧ ∃ v, Lst .i64 3 W v ms ∧ Bk W b10 51 #[v, .int .i64 (-1), .int .i64 ad, .bool wr, .bool false, .int .i64 0]
  | 3, W => StB w X X' k m W ∧ Cb W b9 c1.xs c1.pc ∧ ∃ v, Lst .i64 3 W v ms ∧ Bk W b10 51 #[v, .int .i64 D, .int .i64 ad, .bool wr, .bool false, .int .i64 0]
  | _, W => StB w X X' k m W ∧ Cb W b9 c1.xs c1.pc ∧ ∃ v, Lst .i64 3 W v ms ∧ Bk W b10 51 #[v, .int .i64 D, .int .i64 ad, .bool wr, .bool false, .int .i64 E]
section
variable {w W W' : World} {X X' : XP} {k : Lk} {m : Mc} {b9 b10 : Nat} {c0 c1 : Cor} {ad : Int} {wr : Bool} {ms : List Int} {D E : Int}
theorem StB.below (h : StB w X X' k m W) (hb : Below W.heap.size W W') : StB w X X' k m W' := ⟨h.ex.below hb, h.st.grown hb, (hb.block _ h.q.lt).trans h.q⟩
theorem StB.far (h : StB w X X' k m W) (hf : Frr w X' k.n b9 b10) {S : Nat → Prop} (hw : Within W W' S) (hs : ∀ i, S i → i = b9 ∨ i = b10) : StB w X X' k m W' :=
  ⟨h.ex.kept hw (fun i hi e => by have := hf.far i hi; have := hs i e; omega), h.st.far' hw (fun i e => by have := hs i e; have := hf.n9; have := hf.n10; omega), h.q.within hw (fun e => by have := hs _ e; have := hf.n9; have := hf.n10; omega)⟩
theorem stW_below {j : Nat} (h : StW w X X' k m b9 b10 c0 c1 ad wr ms D E j W) (hb : Below W.heap.size W W') : StW w X X' k m b9 b10 c0 c1 ad wr ms D E j W' := by
  match j, h with
  | 0, ⟨h1, h2, h3⟩ => exact ⟨h1.below hb, Cb.below h2 hb, (hb.block _ h3.lt).trans h3⟩
  | 1, ⟨h1, h2, h3⟩ => exact ⟨h1.below hb, Cb.below h2 hb, (hb.block _ h3.lt).trans h3⟩
  | 2, ⟨h1, h2, v, h4, h3⟩ => exact ⟨h1.below hb, Cb.below h2 hb, v, lst_below h4 hb, (hb.block _ h3.lt).trans h3⟩
  | 3, ⟨h1, h2, v, h4, h3⟩ => exact ⟨h1.below hb, Cb.below h2 hb, v, lst_below h4 hb, (hb.block _ h3.lt).trans h3⟩
  | _ + 4, ⟨h1, h2, v, h4, h3⟩ => exact ⟨h1.below hb, Cb.below h2 hb, v, lst_below h4 hb, (hb.block _ (Bk.lt h3)).trans h3⟩
theorem stW_1 {s0 s1 s2 s3 s4 s5 s6 s7 u0 u1 u2 u3 u4 u5 u6 u7 PC P2 : Int} (hf : Frr w X' k.n b9 b10) (h : StW w X X' k m b9 b10 ⟨[s0, s1, s2, s3, s4, s5, s6, s7], PC⟩ ⟨[u0, u1, u2, u3, u4, u5, u6, u7], P2⟩ ad wr ms D E 0 W) :
    StW w X X' k m b9 b10 ⟨[s0, s1, s2, s3, s4, s5, s6, s7], PC⟩ ⟨[u0, u1, u2, u3, u4, u5, u6, u7], P2⟩ ad wr ms D E 1 (put9 W b9 (.int .u32 u0) (.int .u32 u1) (.int .u32 u2) (.int .u32 u3) (.int .u32 u4) (.int .u32 u5) (.int .u32 u6) (.int .u32 u7) (.int .i64 P2)) ∧ SafeStep W (put9 W b9 (.int .u32 u0) (.int .u32 u1) (.int .u32 u2) (.int .u32 u3) (.int .u32 u4) (.int .u32 u5) (.int .u32 u6) (.int .u32 u7) (.int .i64 P2)) := by
  obtain ⟨h1, h2, h3⟩ := h
  have hW := put9_within (y := W) (g := b9) (.int .u32 u0) (.int .u32 u1) (.int .u32 u2) (.int .u32 u3) (.int .u32 u4) (.int .u32 u5) (.int .u32 u6) (.int .u32 u7) (.int .i64 P2)
  have h4 : Cb (put9 W b9 (.int .u32 u0) (.int .u32 u1) (.int .u32 u2) (.int .u32 u3) (.int .u32 u4) (.int .u32 u5) (.int .u32 u6) (.int .u32 u7) (.int .i64 P2)) b9 [u0, u1, u2, u3, u4, u5, u6, u7] P2 := put9_bk h2 (.int .u32 u0) (.int .u32 u1) (.int .u32 u2) (.int .u32 u3) (.int .u32 u4) (.int .u32 u5) (.int .u32 u6) (.int .u32 u7) (.int .i64 P2)
  generalize put9 W b9 (.int .u32 u0) (.int .u32 u1) (.int .u32 u2) (.int .u32 u3) (.int .u32 u4) (.int .u32 u5) (.int .u32 u6) (.int .u32 u7) (.int .i64 P2) = z at *
  exact ⟨⟨h1.far hf hW (fun i e => .inl e), h4, h3.within hW (by have := hf.n10; omega)⟩, b9, _, _, h2, by decide, hW⟩
theorem stW_2 {v : Value} (hf : Frr w X' k.n b9 b10) (h : StW w X X' k m b9 b10 c0 c1 ad wr ms D E 1 W) (hl : Lst .i64 3 W v ms) :
    StW w X X' k m b9 b10 c0 c1 ad wr ms D E 2 (W.setCell ⟨b10, 0, none⟩ v) ∧ SafeStep W (W.setCell ⟨b10, 0, none⟩ v) := by
  obtain ⟨h1, h2, h3⟩ := h
  have hW : Within W (W.setCell ⟨b10, 0, none⟩ v) (fun i => i = b10) := (Within.refl _ _).put _ _ _ (.inl rfl)
  have h5 : SafeStep W (W.setCell ⟨b10, 0, none⟩ v) := ⟨b10, _, _, h3, by decide, hW⟩
  exact ⟨⟨h1.far hf hW (fun i e => .inr e), Bk.within h2 hW (by have := hf.n10; omega), v, h5.lst hl, h3.put 0 v⟩, h5⟩
theorem stW_3 (hf : Frr w X' k.n b9 b10) (h : StW w X X' k m b9 b10 c0 c1 ad wr ms D E 2 W) :
    StW w X X' k m b9 b10 c0 c1 ad wr ms D E 3 (W.setCell ⟨b10, 1, none⟩ (.int .i64 D)) ∧ SafeStep W (W.setCell ⟨b10, 1, none⟩ (.int .i64 D)) := by
  obtain ⟨h1, h2, v, hl, h3⟩ := h
  have hW : Within W (W.setCell ⟨b10, 1, none⟩ (.int .i64 D)) (fun i => i = b10) := (Within.refl _ _).put _ _ _ (.inl rfl)
  have h5 : SafeStep W (W.setCell ⟨b10, 1, none⟩ (.int .i64 D)) := ⟨b10, _, _, h3, by decide, hW⟩
  exact ⟨⟨h1.far hf hW (fun i e => .inr e), Bk.within h2 hW (by have := hf.n10; omega), v, h5.lst hl, h3.put 1 (.int .i64 D)⟩, h5⟩
theorem stW_4 (hf : Frr w X' k.n b9 b10) (h : StW w X X' k m b9 b10 c0 c1 ad wr ms D E 3 W) :
    StW w X X' k m b9 b10 c0 c1 ad wr ms D E 4 (W.setCell ⟨b10, 5, none⟩ (.int .i64 E)) ∧ SafeStep W (W.setCell ⟨b10, 5, none⟩ (.int .i64 E)) := by
  obtain ⟨h1, h2, v, hl, h3⟩ := h
  have hW : Within W (W.setCell ⟨b10, 5, none⟩ (.int .i64 E)) (fun i => i = b10) := (Within.refl _ _).put _ _ _ (.inl rfl)
  have h5 : SafeStep W (W.setCell ⟨b10, 5, none⟩ (.int .i64 E)) := ⟨b10, _, _, h3, by decide, hW⟩
  exact ⟨⟨h1.far hf hW (fun i e => .inr e), Bk.within h2 hW (by have := hf.n10; omega), v, h5.lst hl, h3.put 5 (.int .i64 E)⟩, h5⟩
end

section
variable {w w' : World} {X : XP} {k : Lk} {m : Mc}
/-- The core behind the memory's part of a step is one. -/
theorem do_eight (h : Ex w X k m) {t : Nat} (ht : t < k.n) {i : Ins} {late : Bool} {c : Cor} (hc : Eight c.xs) {r : Dn} (hr : doM k m t c late i = some r) : Eight r.c.xs := by
  unfold doM at hr
  split at hr
  · injection hr with hr
    subst hr
    obtain ⟨fr, os, cn, hp, hs⟩ := h.pool
    refine hc.put _ ?_
    unfold takeN
    cases he : m.pn.free t with
    | nil => simp only; omega
    | cons q rest => exact hdl_word hs (hs.take ht he).1
  · split at hr
    · split at hr
      · cases hr
      · injection hr with hr
        subst hr
        exact hc
    · split at hr
      · cases hr
      · injection hr with hr
        subst hr
        exact accW_eight h.mc.ws hc
set_option maxHeartbeats 4000000 in
theorem xStep (h : Ex w X k m) (t : Nat) (ht : t < k.n) (late : Bool) :
    Calls Tryz.prog 12 #[.pointer (some ⟨X.x, 0, none⟩), .int .i64 t, .bool late] w (Came w X k (stepM k m t late)) := by
  have hnn := h.lk.n64
  have hl := h.lk.parts.2.1
  have hx8 := Lib.hid (h.mc.cs t ht)
  have HX := Lib.hid h
  have hOwn : ∀ i, X.Own k.n i → i < w.heap.size := fun i hi => h.lt hi
  have q0 := Bk.made w 51 #[.slice none 0 0, .int .i64 0, .int .i64 0, .bool false, .bool false, .int .i64 0]
  have b0 : Below w.heap.size w (w.alloc (.cells #[.slice none 0 0, .int .i64 0, .int .i64 0, .bool false, .bool false, .int .i64 0] 51)) := (Below.refl _ _).alloc (Nat.le_refl _) _
  cases hm : memI k (m.cs t).pc with
  | none =>
    rw [step_none hm]
    go_enter Tryz.func12, Tryz.ntmps12
    go_upto_region 1 with fail
    generalize w.alloc (.cells #[.slice none 0 0, .int .i64 0, .int .i64 0, .bool false, .bool false, .int .i64 0] 51) = y at *
    have h2 := h.below b0
    have hst := xStandNone h2 t ht hm
    unfold NoInst iv Ins.zero at hst
    simp only at hst
    clear h
    go_wp2_with fail
    refine hst.mono ?_
    rintro e z1 ⟨rfl, hz⟩
    clear hst
    replace h2 := h2.below hz
    replace q0 := (hz.block _ q0.lt).trans q0
    replace b0 := b0.trans (hz.mono b0.size)
    clear hz
    go_upto_region 3 with fail
    have hz := (Below.refl z1.heap.size z1).alloc (Nat.le_refl _) (.cells #[.int .i64 0, .int .i64 0, .int .i64 0, .int .i64 0, .int .i64 0, .int .i64 0, .int .u32 0, .int .i64 0] 45)
    replace h2 := h2.below hz
    replace q0 : Bk _ w.heap.size _ _ := (hz.block _ (Bk.lt q0)).trans q0
    replace b0 := b0.trans (hz.mono b0.size)
    clear hz
    generalize z1.heap.size = b7 at *
    generalize z1.alloc (.cells #[.int .i64 0, .int .i64 0, .int .i64 0, .int .i64 0, .int .i64 0, .int .i64 0, .int .u32 0, .int .i64 0] 45) = z2 at *
    have hTr := xTrap z2
    unfold otV trapO at hTr
    simp only at hTr
    go_wp2_with fail
    refine hTr.mono ?_
    rintro e z ⟨rfl, hz⟩
    have hx := h2.below hz
    replace q0 : Bk z w.heap.size 51 #[.slice none 0 0, .int .i64 0, .int .i64 0, .bool false, .bool false, .int .i64 0] := (hz.block _ (Bk.lt q0)).trans q0
    have hst := XStays.of_grown (n := k.n) (X := X) (b0.trans (hz.mono b0.size))
    have hfar : ∀ i, X.Own k.n i → i ≠ w.heap.size ∧ True := fun i hi => ⟨by have := hOwn i hi; omega, trivial⟩
    clear hz h2 b0 hTr
    obtain ⟨y0, y1, y2, y3, y4, y5⟩ : z.cell? ⟨w.heap.size, 0, none⟩ = some (.slice none 0 0) ∧ z.cell? ⟨w.heap.size, 1, none⟩ = some (.int .i64 0) ∧ z.cell? ⟨w.heap.size, 2, none⟩ = some (.int .i64 0) ∧ z.cell? ⟨w.heap.size, 3, none⟩ = some (.bool false) ∧ z.cell? ⟨w.heap.size, 4, none⟩ = some (.bool false) ∧ z.cell? ⟨w.heap.size, 5, none⟩ = some (.int .i64 0) := ⟨q0.cell 0, q0.cell 1, q0.cell 2, q0.cell 3, q0.cell 4, q0.cell 5⟩
    have zf := Bk.free q0
    have p1 := put6_bk q0 (.slice none 0 0) (.int .i64 (-1)) (.int .i64 (-1)) (.bool false) (.bool false) (.int .i64 11)
    have p2 := put6_within (y := z) (g := w.heap.size) (.slice none 0 0) (.int .i64 (-1)) (.int .i64 (-1)) (.bool false) (.bool false) (.int .i64 11)
    have l6 := lst_within (Lst.nil .i64 3 z) p2 (by rintro b' rfl; exact ⟨_, _, q0, by decide⟩)
    have h6 := hx.kept p2 (fun i hi e => (hfar i hi).1 e)
    have st6 := hst.far' p2 (fun i e => by omega)
    have HFE := Lib.hid (And.intro l6 (And.intro h6 st6))
    clear l6 h6 st6 hx hst
    go_wp2
    generalize hv9 : ((((((z.setCell ⟨w.heap.size, 0, none⟩ (.slice none 0 0)).setCell ⟨w.heap.size, 1, none⟩ (.int .i64 (-1))).setCell ⟨w.heap.size, 2, none⟩ (.int .i64 (-1))).setCell ⟨w.heap.size, 3, none⟩ (.bool false)).setCell ⟨w.heap.size, 4, none⟩ (.bool false)).setCell ⟨w.heap.size, 5, none⟩ (.int .i64 11)) = v9
    replace hv9 : put6 z w.heap.size (.slice none 0 0) (.int .i64 (-1)) (.int .i64 (-1)) (.bool false) (.bool false) (.int .i64 11) = v9 := hv9
    rw [hv9] at p1 HFE
    clear hv9 p2 q0 y0 y1 y2 y3 y4 y5 zf
    obtain ⟨o0, o1, o2, o3, o4, o5⟩ : v9.cell? ⟨w.heap.size, 0, none⟩ = some (.slice none 0 0) ∧ v9.cell? ⟨w.heap.size, 1, none⟩ = some (.int .i64 (-1)) ∧ v9.cell? ⟨w.heap.size, 2, none⟩ = some (.int .i64 (-1)) ∧ v9.cell? ⟨w.heap.size, 3, none⟩ = some (.bool false) ∧ v9.cell? ⟨w.heap.size, 4, none⟩ = some (.bool false) ∧ v9.cell? ⟨w.heap.size, 5, none⟩ = some (.int .i64 11) := ⟨p1.cell 0, p1.cell 1, p1.cell 2, p1.cell 3, p1.cell 4, p1.cell 5⟩
    exact bodyPost_ret (v := .agg #[.slice none 0 0, .int .i64 (-1), .int .i64 (-1), .bool false, .bool false, .int .i64 11]) (by simp [results, Tryz.results12, go_sem, o0, o1, o2, o3, o4, o5]) rfl ⟨.slice none 0 0, X.M, rfl, HFE.out.1, HFE.out.2.1, HFE.out.2.2⟩
  | some i =>
    have hiM := h.lk.okM hm
    rw [step_do hm hiM]
    obtain ⟨R, hR⟩ : ∃ R, R = doM k m t (m.cs t) late i := ⟨_, rfl⟩
    rw [← hR]
    have HR := Lib.hid hR
    clear hR
    go_enter Tryz.func12, Tryz.ntmps12
    go_upto_region 1 with fail
    generalize w.alloc (.cells #[.slice none 0 0, .int .i64 0, .int .i64 0, .bool false, .bool false, .int .i64 0] 51) = y at *
    have h2 := h.below b0
    have hst := xStandOne h2 t ht hm
    unfold OneInst iv at hst
    clear h
    go_wp2_with fail
    refine hst.mono ?_
    rintro e z1 ⟨rfl, hz⟩
    clear hst
    replace h2 := h2.below hz
    replace q0 := (hz.block _ q0.lt).trans q0
    replace b0 := b0.trans (hz.mono b0.size)
    clear hz
    have HDO := Lib.hid (fun W (hW : Ex W X k m) => xDo hW t ht i late hm)
    rw [← HR.out] at HDO
    obtain ⟨op, d, s, t', u, a', k', pl⟩ := i
    unfold iv at HDO
    simp only at HDO
    go_upto_region 4 with fail
    have hz := (Below.refl z1.heap.size z1).alloc (Nat.le_refl _) (.cells #[.int .i64 op, .int .i64 d, .int .i64 s, .int .i64 t', .int .i64 u, .int .i64 a', .int .u32 k', .int .i64 pl] 45)
    have q7 := Ib.made z1 op d s t' u a' k' pl
    replace h2 := h2.below hz
    replace q0 : Bk _ w.heap.size _ _ := (hz.block _ (Bk.lt q0)).trans q0
    replace b0 := b0.trans (hz.mono b0.size)
    clear hz
    generalize z1.heap.size = b7 at *
    generalize z1.alloc (.cells #[.int .i64 op, .int .i64 d, .int .i64 s, .int .i64 t', .int .i64 u, .int .i64 a', .int .u32 k', .int .i64 pl] 45) = z2 at *
    obtain ⟨e0, e1, e2, e3, e4, e5, e6, e7⟩ := q7.cells
    simp only at e0 e1 e2 e3 e4 e5 e6 e7
    cases R with
    | none =>
      replace HDO : Hid (∀ W, Ex W X k m → Calls Tryz.prog 30 #[.pointer (some ⟨X.x, 0, none⟩), .int .i64 t, .agg #[.int .i64 op, .int .i64 d, .int .i64 s, .int .i64 t', .int .i64 u, .int .i64 a', .int .u32 k', .int .i64 pl], .bool late] W fun e w' => e = .returned (.tuple #[cv (m.cs t).xs (m.cs t).pc, otV (.slice none 0 0) trapO]) ∧ Below W.heap.size W w') := HDO
      obtain ⟨r0, r1, r2, r3, r4, r5, r6, r7, pc, ec⟩ := h2.core_cons ht
      rw [ec] at HDO
      unfold otV trapO cv at HDO
      simp only [corC, List.map_cons, List.map_nil, List.cons_append, List.nil_append] at HDO
      go_wp2_with fail
      refine (HDO.out _ h2).mono ?_
      rintro e z3 ⟨rfl, hz⟩
      replace h2 := h2.below hz
      replace q0 : Bk z3 w.heap.size _ _ := (hz.block _ (Bk.lt q0)).trans q0
      replace b0 := b0.trans (hz.mono b0.size)
      clear hz q7 e0 e1 e2 e3 e4 e5 e6 e7 HDO
      go_upto_region 5 with fail
      have hz := ((Below.refl z3.heap.size z3).alloc (Nat.le_refl _) (.cells #[.int .u32 r0, .int .u32 r1, .int .u32 r2, .int .u32 r3, .int .u32 r4, .int .u32 r5, .int .u32 r6, .int .u32 r7, .int .i64 pc] 66)).alloc (by simp) (.cells #[(.slice none 0 0), .int .i64 (-1), .int .i64 (-1), .bool false, .bool false, .int .i64 11] 51)
      have o10 := Bk.made (z3.alloc (.cells #[.int .u32 r0, .int .u32 r1, .int .u32 r2, .int .u32 r3, .int .u32 r4, .int .u32 r5, .int .u32 r6, .int .u32 r7, .int .i64 pc] 66)) 51 #[(.slice none 0 0), .int .i64 (-1), .int .i64 (-1), .bool false, .bool false, .int .i64 11]
      rw [World.size_alloc] at o10
      have hx := h2.below hz
      replace q0 : Bk _ w.heap.size 51 #[.slice none 0 0, .int .i64 0, .int .i64 0, .bool false, .bool false, .int .i64 0] := (hz.block _ (Bk.lt q0)).trans q0
      have hst := XStays.of_grown (n := k.n) (X := X) (b0.trans (hz.mono b0.size))
      have hfar : ∀ i, X.Own k.n i → i ≠ w.heap.size ∧ True := fun i hi => ⟨by have := hOwn i hi; omega, trivial⟩
      clear hz h2 b0
      generalize (z3.alloc (.cells #[.int .u32 r0, .int .u32 r1, .int .u32 r2, .int .u32 r3, .int .u32 r4, .int .u32 r5, .int .u32 r6, .int .u32 r7, .int .i64 pc] 66)).alloc (.cells #[(.slice none 0 0), .int .i64 (-1), .int .i64 (-1), .bool false, .bool false, .int .i64 11] 51) = z4 at *
      obtain ⟨o0, o1, o2, o3, o4, o5⟩ : z4.cell? ⟨z3.heap.size + 1, 0, none⟩ = some (.slice none 0 0) ∧ z4.cell? ⟨z3.heap.size + 1, 1, none⟩ = some (.int .i64 (-1)) ∧ z4.cell? ⟨z3.heap.size + 1, 2, none⟩ = some (.int .i64 (-1)) ∧ z4.cell? ⟨z3.heap.size + 1, 3, none⟩ = some (.bool false) ∧ z4.cell? ⟨z3.heap.size + 1, 4, none⟩ = some (.bool false) ∧ z4.cell? ⟨z3.heap.size + 1, 5, none⟩ = some (.int .i64 11) := ⟨o10.cell 0, o10.cell 1, o10.cell 2, o10.cell 3, o10.cell 4, o10.cell 5⟩
      obtain ⟨y0, y1, y2, y3, y4, y5⟩ : z4.cell? ⟨w.heap.size, 0, none⟩ = some (.slice none 0 0) ∧ z4.cell? ⟨w.heap.size, 1, none⟩ = some (.int .i64 0) ∧ z4.cell? ⟨w.heap.size, 2, none⟩ = some (.int .i64 0) ∧ z4.cell? ⟨w.heap.size, 3, none⟩ = some (.bool false) ∧ z4.cell? ⟨w.heap.size, 4, none⟩ = some (.bool false) ∧ z4.cell? ⟨w.heap.size, 5, none⟩ = some (.int .i64 0) := ⟨q0.cell 0, q0.cell 1, q0.cell 2, q0.cell 3, q0.cell 4, q0.cell 5⟩
      have zf := Bk.free q0
      have p1 := put6_bk q0 (.slice none 0 0) (.int .i64 (-1)) (.int .i64 (-1)) (.bool false) (.bool false) (.int .i64 11)
      have p2 := put6_within (y := z4) (g := w.heap.size) (.slice none 0 0) (.int .i64 (-1)) (.int .i64 (-1)) (.bool false) (.bool false) (.int .i64 11)
      have l6 := lst_within (Lst.nil .i64 3 z4) p2 (by rintro b' rfl; exact ⟨_, _, q0, by decide⟩)
      have h6 := hx.kept p2 (fun i hi e => (hfar i hi).1 e)
      have st6 := hst.far' p2 (fun i e => by omega)
      have HFE := Lib.hid (And.intro l6 (And.intro h6 st6))
      clear l6 h6 st6 hx hst
      go_wp2
      generalize hv9 : ((((((z4.setCell ⟨w.heap.size, 0, none⟩ (.slice none 0 0)).setCell ⟨w.heap.size, 1, none⟩ (.int .i64 (-1))).setCell ⟨w.heap.size, 2, none⟩ (.int .i64 (-1))).setCell ⟨w.heap.size, 3, none⟩ (.bool false)).setCell ⟨w.heap.size, 4, none⟩ (.bool false)).setCell ⟨w.heap.size, 5, none⟩ (.int .i64 11)) = v9
      replace hv9 : put6 z4 w.heap.size (.slice none 0 0) (.int .i64 (-1)) (.int .i64 (-1)) (.bool false) (.bool false) (.int .i64 11) = v9 := hv9
      rw [hv9] at p1 HFE
      clear hv9 p2 q0 y0 y1 y2 y3 y4 y5 zf
      obtain ⟨o0, o1, o2, o3, o4, o5⟩ : v9.cell? ⟨w.heap.size, 0, none⟩ = some (.slice none 0 0) ∧ v9.cell? ⟨w.heap.size, 1, none⟩ = some (.int .i64 (-1)) ∧ v9.cell? ⟨w.heap.size, 2, none⟩ = some (.int .i64 (-1)) ∧ v9.cell? ⟨w.heap.size, 3, none⟩ = some (.bool false) ∧ v9.cell? ⟨w.heap.size, 4, none⟩ = some (.bool false) ∧ v9.cell? ⟨w.heap.size, 5, none⟩ = some (.int .i64 11) := ⟨p1.cell 0, p1.cell 1, p1.cell 2, p1.cell 3, p1.cell 4, p1.cell 5⟩
      exact bodyPost_ret (v := .agg #[.slice none 0 0, .int .i64 (-1), .int .i64 (-1), .bool false, .bool false, .int .i64 11]) (by simp [results, Tryz.results12, go_sem, o0, o1, o2, o3, o4, o5]) rfl ⟨.slice none 0 0, X.M, rfl, HFE.out.1, HFE.out.2.1, HFE.out.2.2⟩
    | some R =>
      obtain ⟨RM, RC, AD, WR, ST⟩ := R
      have hE := do_eight HX.out ht hx8.out HR.out.symm
      replace HDO : Hid (∀ W, Ex W X k m → Calls Tryz.prog 30 #[.pointer (some ⟨X.x, 0, none⟩), .int .i64 t, .agg #[.int .i64 op, .int .i64 d, .int .i64 s, .int .i64 t', .int .i64 u, .int .i64 a', .int .u32 k', .int .i64 pl], .bool late] W fun e w' => e = .returned (.tuple #[cv RC.xs RC.pc, otV (.slice none 0 0) ⟨[], -1, AD, WR, ST, 0⟩]) ∧ ∃ M', Ex w' { X with M := M' } k RM ∧ XStays W k.n X w' { X with M := M' }) := HDO
      obtain ⟨cxs, PC⟩ := RC
      simp only at hE HDO
      obtain ⟨s0, s1, s2, s3, s4, s5, s6, s7, rfl⟩ := eight_cons hE.1
      have HE8 := Lib.hid hE
      unfold otV cv at HDO
      simp only [corC, List.map_cons, List.map_nil, List.cons_append, List.nil_append] at HDO
      go_wp2_with fail
      refine (HDO.out _ h2).mono ?_
      rintro e z3 ⟨rfl, M', hx, hst⟩
      have hown : ∀ i, XP.Own { X with M := M' } k.n i → i < w.heap.size ∨ (z2.heap.size ≤ i ∧ i < z3.heap.size) := fun i hi => by
        rcases hst.2.1 i hi with e | e
        · exact .inl (hOwn i e)
        · exact .inr ⟨e, hx.lt hi⟩
      have hzw : w.heap.size < z2.heap.size := Bk.lt q0
      have hzs := hst.1.size
      replace q0 : Bk z3 w.heap.size _ _ := Bk.within q0 hst.1 (fun e => by have := hOwn _ (XP.has_own e); omega)
      replace hst := (XStays.of_grown (n := k.n) (X := X) b0).then_ hst
      clear h2 b0 HDO q7 e0 e1 e2 e3 e4 e5 e6 e7 hE
      go_upto_region 5 with fail
      have hz := ((Below.refl z3.heap.size z3).alloc (Nat.le_refl _) (.cells #[.int .u32 s0, .int .u32 s1, .int .u32 s2, .int .u32 s3, .int .u32 s4, .int .u32 s5, .int .u32 s6, .int .u32 s7, .int .i64 PC] 66)).alloc (by simp) (.cells #[(.slice none 0 0), .int .i64 (-1), .int .i64 AD, .bool WR, .bool ST, .int .i64 0] 51)
      have o10 := Bk.made (z3.alloc (.cells #[.int .u32 s0, .int .u32 s1, .int .u32 s2, .int .u32 s3, .int .u32 s4, .int .u32 s5, .int .u32 s6, .int .u32 s7, .int .i64 PC] 66)) 51 #[(.slice none 0 0), .int .i64 (-1), .int .i64 AD, .bool WR, .bool ST, .int .i64 0]
      rw [World.size_alloc] at o10
      have c9 : Cb ((z3.alloc (.cells #[.int .u32 s0, .int .u32 s1, .int .u32 s2, .int .u32 s3, .int .u32 s4, .int .u32 s5, .int .u32 s6, .int .u32 s7, .int .i64 PC] 66)).alloc (.cells #[(.slice none 0 0), .int .i64 (-1), .int .i64 AD, .bool WR, .bool ST, .int .i64 0] 51)) z3.heap.size [s0, s1, s2, s3, s4, s5, s6, s7] PC := Bk.alloc (Cb.made z3 [s0, s1, s2, s3, s4, s5, s6, s7] PC) _
      replace hx := hx.below hz
      replace q0 : Bk _ w.heap.size 51 #[.slice none 0 0, .int .i64 0, .int .i64 0, .bool false, .bool false, .int .i64 0] := (hz.block _ (Bk.lt q0)).trans q0
      replace hst := hst.grown hz
      have hFr : Frr w { X with M := M' } k.n z3.heap.size (z3.heap.size + 1) := ⟨fun i hi => by rcases hown i hi with e | e <;> omega, by omega, by omega⟩
      have hfar : ∀ i, XP.Own { X with M := M' } k.n i → i ≠ w.heap.size ∧ True := fun i hi => ⟨(hFr.far i hi).1, trivial⟩
      clear hz hown hzw hzs
      generalize (z3.alloc (.cells #[.int .u32 s0, .int .u32 s1, .int .u32 s2, .int .u32 s3, .int .u32 s4, .int .u32 s5, .int .u32 s6, .int .u32 s7, .int .i64 PC] 66)).alloc (.cells #[(.slice none 0 0), .int .i64 (-1), .int .i64 AD, .bool WR, .bool ST, .int .i64 0] 51) = z4 at *
      generalize hb9 : z3.heap.size = b9 at *
      obtain ⟨b10, hb10⟩ : ∃ b, b = b9 + 1 := ⟨_, rfl⟩
      rw [← hb10] at o10 hFr ⊢
      clear hb9 hb10
      obtain ⟨o0, o1, o2, o3, o4, o5⟩ : z4.cell? ⟨b10, 0, none⟩ = some (.slice none 0 0) ∧ z4.cell? ⟨b10, 1, none⟩ = some (.int .i64 (-1)) ∧ z4.cell? ⟨b10, 2, none⟩ = some (.int .i64 AD) ∧ z4.cell? ⟨b10, 3, none⟩ = some (.bool WR) ∧ z4.cell? ⟨b10, 4, none⟩ = some (.bool ST) ∧ z4.cell? ⟨b10, 5, none⟩ = some (.int .i64 0) := ⟨o10.cell 0, o10.cell 1, o10.cell 2, o10.cell 3, o10.cell 4, o10.cell 5⟩
      cases ST with
      | true =>
        have HDo : Hid (behindM k RM t ⟨[s0, s1, s2, s3, s4, s5, s6, s7], PC⟩ AD WR true = ({ RM with cs := updN RM.cs t ⟨[s0, s1, s2, s3, s4, s5, s6, s7], PC⟩ }, ⟨[], -1, AD, WR, true, 0⟩)) := Lib.hid rfl
        go_upto_region 9 with fail
        clear o0 o1 o2 o3 o4 o5
        have cx5 : z4.cell? ⟨X.x, 5, none⟩ = some (.slice (some ⟨X.kb, 0, none⟩) k.n k.n) := hx.c5
        obtain ⟨r0, r1, r2, r3, r4, r5, r6, r7, pc0, ec0⟩ := hx.core_cons ht
        obtain ⟨k0, k1, k2, k3, k4, k5, k6, k7, k8⟩ : _ := hx.core ht ec0
        have zf : ∀ i, z4.frozen? ⟨X.kb, i, none⟩ = false := hx.free
        obtain ⟨d0, d1, d2, d3, d4, d5, d6, d7, d8⟩ := c9.cells
        have hkb : X.kb < w.heap.size := hOwn _ (.inr (.inr (.inl rfl)))
        have hkb2 : w.heap.size ≠ X.kb := by omega
        have hkb3 : b10 ≠ X.kb := by have := hFr.n9; have := hFr.n10; omega
        go_region
        have h4 := hx.put ht (c := ⟨[s0, s1, s2, s3, s4, s5, s6, s7], PC⟩) HE8.out
        have hw4 : Within z4 (putW z4 X.kb (t * 9) (corC [s0, s1, s2, s3, s4, s5, s6, s7] PC)) (fun i => i = X.kb) := .of_grown (putW_only _ _ _) (by rintro i e; injection e with e; exact .inl e.symm)
        replace q0 := Bk.within q0 hw4 hkb2
        replace o10 := Bk.within o10 hw4 hkb3
        have st4 := hst.then_ (XStays.put (X := { X with M := M' }) (n := k.n) (w := z4) (t := t * 9) (vs := corC [s0, s1, s2, s3, s4, s5, s6, s7] PC))
        generalize hv4 : (((((((((z4.setCell ⟨X.kb, t * 9, none⟩ (.int .u32 s0)).setCell ⟨X.kb, t * 9 + 1, none⟩ (.int .u32 s1)).setCell ⟨X.kb, t * 9 + 2, none⟩ (.int .u32 s2)).setCell ⟨X.kb, t * 9 + 3, none⟩ (.int .u32 s3)).setCell ⟨X.kb, t * 9 + 4, none⟩ (.int .u32 s4)).setCell ⟨X.kb, t * 9 + 5, none⟩ (.int .u32 s5)).setCell ⟨X.kb, t * 9 + 6, none⟩ (.int .u32 s6)).setCell ⟨X.kb, t * 9 + 7, none⟩ (.int .u32 s7)).setCell ⟨X.kb, t * 9 + 8, none⟩ (.int .i64 PC)) = v4
        replace hv4 : putW z4 X.kb (t * 9) (corC [s0, s1, s2, s3, s4, s5, s6, s7] PC) = v4 := hv4
        have hv4' : putW z4 (XP.kb { X with M := M' }) (t * 9) (corC [s0, s1, s2, s3, s4, s5, s6, s7] PC) = v4 := hv4
        simp only [hv4] at q0 o10 st4
        replace h4 : Ex v4 { X with M := M' } k { RM with cs := updN RM.cs t ⟨[s0, s1, s2, s3, s4, s5, s6, s7], PC⟩ } := by rw [← hv4]; exact h4
        clear hv4 hv4' hw4 d0 d1 d2 d3 d4 d5 d6 d7 d8 k0 k1 k2 k3 k4 k5 k6 k7 k8 zf cx5 hx hst c9
        have hx := h4.below (Below.refl _ v4).drew
        replace q0 : Bk v4.drew w.heap.size 51 #[.slice none 0 0, .int .i64 0, .int .i64 0, .bool false, .bool false, .int .i64 0] := q0
        replace o10 : Bk v4.drew b10 51 #[.slice none 0 0, .int .i64 (-1), .int .i64 AD, .bool WR, .bool true, .int .i64 0] := o10
        have hst := st4.grown (Below.refl _ v4).drew
        clear h4 st4
        generalize v4.drew = v5 at *
        obtain ⟨n0, n1, n2, n3, n4, n5⟩ : v5.cell? ⟨b10, 0, none⟩ = some (.slice none 0 0) ∧ v5.cell? ⟨b10, 1, none⟩ = some (.int .i64 (-1)) ∧ v5.cell? ⟨b10, 2, none⟩ = some (.int .i64 AD) ∧ v5.cell? ⟨b10, 3, none⟩ = some (.bool WR) ∧ v5.cell? ⟨b10, 4, none⟩ = some (.bool true) ∧ v5.cell? ⟨b10, 5, none⟩ = some (.int .i64 0) := ⟨o10.cell 0, o10.cell 1, o10.cell 2, o10.cell 3, o10.cell 4, o10.cell 5⟩
        obtain ⟨y0, y1, y2, y3, y4, y5⟩ : v5.cell? ⟨w.heap.size, 0, none⟩ = some (.slice none 0 0) ∧ v5.cell? ⟨w.heap.size, 1, none⟩ = some (.int .i64 0) ∧ v5.cell? ⟨w.heap.size, 2, none⟩ = some (.int .i64 0) ∧ v5.cell? ⟨w.heap.size, 3, none⟩ = some (.bool false) ∧ v5.cell? ⟨w.heap.size, 4, none⟩ = some (.bool false) ∧ v5.cell? ⟨w.heap.size, 5, none⟩ = some (.int .i64 0) := ⟨q0.cell 0, q0.cell 1, q0.cell 2, q0.cell 3, q0.cell 4, q0.cell 5⟩
        have zf := Bk.free q0
        have p1 := put6_bk q0 (.slice none 0 0) (.int .i64 (-1)) (.int .i64 AD) (.bool WR) (.bool true) (.int .i64 0)
        have p2 := put6_within (y := v5) (g := w.heap.size) (.slice none 0 0) (.int .i64 (-1)) (.int .i64 AD) (.bool WR) (.bool true) (.int .i64 0)
        have l6 := lst_within (Lst.nil .i64 3 v5) p2 (by rintro b' rfl; exact ⟨_, _, q0, by decide⟩)
        have h6 := hx.kept p2 (fun i hi e => (hfar i hi).1 e)
        have st6 := hst.far' p2 (fun i e => by omega)
        have HFE := Lib.hid (And.intro l6 (And.intro h6 st6))
        clear l6 h6 st6 hx hst
        go_wp2
        generalize hv9 : ((((((v5.setCell ⟨w.heap.size, 0, none⟩ (.slice none 0 0)).setCell ⟨w.heap.size, 1, none⟩ (.int .i64 (-1))).setCell ⟨w.heap.size, 2, none⟩ (.int .i64 AD)).setCell ⟨w.heap.size, 3, none⟩ (.bool WR)).setCell ⟨w.heap.size, 4, none⟩ (.bool true)).setCell ⟨w.heap.size, 5, none⟩ (.int .i64 0)) = v9
        replace hv9 : put6 v5 w.heap.size (.slice none 0 0) (.int .i64 (-1)) (.int .i64 AD) (.bool WR) (.bool true) (.int .i64 0) = v9 := hv9
        rw [hv9] at p1 HFE
        clear hv9 p2 q0 y0 y1 y2 y3 y4 y5 zf
        obtain ⟨o0, o1, o2, o3, o4, o5⟩ : v9.cell? ⟨w.heap.size, 0, none⟩ = some (.slice none 0 0) ∧ v9.cell? ⟨w.heap.size, 1, none⟩ = some (.int .i64 (-1)) ∧ v9.cell? ⟨w.heap.size, 2, none⟩ = some (.int .i64 AD) ∧ v9.cell? ⟨w.heap.size, 3, none⟩ = some (.bool WR) ∧ v9.cell? ⟨w.heap.size, 4, none⟩ = some (.bool true) ∧ v9.cell? ⟨w.heap.size, 5, none⟩ = some (.int .i64 0) := ⟨p1.cell 0, p1.cell 1, p1.cell 2, p1.cell 3, p1.cell 4, p1.cell 5⟩
        exact bodyPost_ret (v := .agg #[.slice none 0 0, .int .i64 (-1), .int .i64 AD, .bool WR, .bool true, .int .i64 0]) (by simp [results, Tryz.results12, go_sem, o0, o1, o2, o3, o4, o5]) rfl (by show Came w X k (behindM k RM t _ AD WR true) _ _; rw [HDo.out]; exact ⟨.slice none 0 0, M', rfl, HFE.out.1, HFE.out.2.1, HFE.out.2.2⟩)
      | false =>
        obtain ⟨RR, hRR⟩ : ∃ q, q = runL (t : Int) k.l 256 [s0, s1, s2, s3, s4, s5, s6, s7] PC [] := ⟨_, rfl⟩
        have hE2 : Eight RR.xs := by rw [hRR]; exact runL_eight HX.out.lk.ok (by omega) (by omega) _ _ _ _ HE8.out
        have HRun0 := fun (v : Value) W hW => cRun ⟨k.l, k.lo, k.un⟩ v [s0, s1, s2, s3, s4, s5, s6, s7] PC t W hW hl HX.out.lk.ok HE8.out (by omega) (by omega)
        rw [← hRR] at HRun0
        have HDo : Hid (behindM k RM t ⟨[s0, s1, s2, s3, s4, s5, s6, s7], PC⟩ AD WR false = ({ RM with cs := updN RM.cs t ⟨RR.xs, RR.pc⟩ }, ⟨RR.ms, RR.done, AD, WR, false, RR.e⟩)) := Lib.hid (by
          unfold behindM runM
          simp only [Bool.false_eq_true, if_false, ← hRR])
        clear hRR
        obtain ⟨uxs, P2, ms, D, E⟩ := RR
        simp only at hE2 HDo
        obtain ⟨u0, u1, u2, u3, u4, u5, u6, u7, rfl⟩ := eight_cons hE2.1
        have HE9 := Lib.hid hE2
        have HRun : Hid (∀ W, Ex W { X with M := M' } k RM → Calls Tryz.prog 31 #[.agg #[.int .u32 s0, .int .u32 s1, .int .u32 s2, .int .u32 s3, .int .u32 s4, .int .u32 s5, .int .u32 s6, .int .u32 s7, .int .i64 PC], .agg #[X.cv, .int .i64 k.lo, .int .i64 k.un], .int .i64 t] W fun e w' => ∃ m5, e = .returned (.tuple #[.agg #[.int .u32 u0, .int .u32 u1, .int .u32 u2, .int .u32 u3, .int .u32 u4, .int .u32 u5, .int .u32 u6, .int .u32 u7, .int .i64 P2], m5, .int .i64 D, .int .i64 E]) ∧ Lst .i64 3 w' m5 ms ∧ Below W.heap.size W w') := Lib.hid fun W hW => HRun0 _ W hW.pv.1
        have hS0 : StB w X { X with M := M' } k RM z4 ∧ Cb z4 b9 [s0, s1, s2, s3, s4, s5, s6, s7] PC ∧ Bk z4 b10 51 #[(.slice none 0 0), .int .i64 (-1), .int .i64 AD, .bool WR, .bool false, .int .i64 0] := ⟨⟨hx, hst, q0⟩, c9, o10⟩
        clear HRun0 hE2 hx hst q0 c9
        go_upto_region 8 with fail
        clear o0 o1 o2 o3 o4 o5 o10
        refine wp_region_flow [12, 14, 16, 18] (StW w X { X with M := M' } k RM b9 b10 ⟨[s0, s1, s2, s3, s4, s5, s6, s7], PC⟩ ⟨[u0, u1, u2, u3, u4, u5, u6, u7], P2⟩ AD WR ms D E) (fun _ W W2 => SafeStep W W2) (fun vs => { tmps := #[.pointer (some ⟨X.x, 0, none⟩), .int .i64 (t : Int), .bool late, undef, undef, undef, .pointer (some ⟨w.heap.size, 0, none⟩), .pointer (some ⟨b7, 0, none⟩), .bool true, .pointer (some ⟨b9, 0, none⟩), .pointer (some ⟨b10, 0, none⟩), .tuple #[.agg #[.int .i64 op, .int .i64 d, .int .i64 s, .int .i64 t', .int .i64 u, .int .i64 a', .int .u32 k', .int .i64 pl], .bool true], .pointer (some ⟨X.x, 0, none⟩), .int .i64 (t : Int), .tuple #[.agg #[.int .i64 op, .int .i64 d, .int .i64 s, .int .i64 t', .int .i64 u, .int .i64 a', .int .u32 k', .int .i64 pl], .bool true], .agg #[.int .i64 op, .int .i64 d, .int .i64 s, .int .i64 t', .int .i64 u, .int .i64 a', .int .u32 k', .int .i64 pl], .bool true, .bool true, .bool false, undef, .tuple #[.agg #[.int .u32 s0, .int .u32 s1, .int .u32 s2, .int .u32 s3, .int .u32 s4, .int .u32 s5, .int .u32 s6, .int .u32 s7, .int .i64 PC], .agg #[.slice none 0 0, .int .i64 (-1), .int .i64 AD, .bool WR, .bool false, .int .i64 0]], .pointer (some ⟨X.x, 0, none⟩), .int .i64 (t : Int), .agg #[.int .i64 op, .int .i64 d, .int .i64 s, .int .i64 t', .int .i64 u, .int .i64 a', .int .u32 k', .int .i64 pl], .bool late, .tuple #[.agg #[.int .u32 s0, .int .u32 s1, .int .u32 s2, .int .u32 s3, .int .u32 s4, .int .u32 s5, .int .u32 s6, .int .u32 s7, .int .i64 PC], .agg #[.slice none 0 0, .int .i64 (-1), .int .i64 AD, .bool WR, .bool false, .int .i64 0]], .agg #[.int .u32 s0, .int .u32 s1, .int .u32 s2, .int .u32 s3, .int .u32 s4, .int .u32 s5, .int .u32 s6, .int .u32 s7, .int .i64 PC], .agg #[.slice none 0 0, .int .i64 (-1), .int .i64 AD, .bool WR, .bool false, .int .i64 0], .pointer (some ⟨b10, 5, none⟩), .int .i64 0, .bool false, undef, .pointer (some ⟨b10, 4, none⟩), .bool false, .bool true, vs 7, vs 0, vs 1, vs 2, vs 3, vs 4, vs 5, vs 6, vs 8, vs 9, vs 10, vs 11, vs 13, vs 15, vs 17, undef, undef, undef, undef, undef, undef, undef, undef], defers := [] }) (mixT [(6, (TupR (.agg #[.int .u32 u0, .int .u32 u1, .int .u32 u2, .int .u32 u3, .int .u32 u4, .int .u32 u5, .int .u32 u6, .int .u32 u7, .int .i64 P2]) ms D E)), (7, (TupR (.agg #[.int .u32 u0, .int .u32 u1, .int .u32 u2, .int .u32 u3, .int .u32 u4, .int .u32 u5, .int .u32 u6, .int .u32 u7, .int .i64 P2]) ms D E)), (9, (fun v W => Lst .i64 3 W v ms))] [.agg #[.int .u32 s0, .int .u32 s1, .int .u32 s2, .int .u32 s3, .int .u32 s4, .int .u32 s5, .int .u32 s6, .int .u32 s7, .int .i64 PC], .pointer (some ⟨X.x, 0, none⟩), .pointer (some ⟨X.x, 0, none⟩), .pointer (some ⟨X.x, 0, none⟩), .agg #[X.cv, .int .i64 k.lo, .int .i64 k.un], .int .i64 (t : Int), undef, undef, .agg #[.int .u32 u0, .int .u32 u1, .int .u32 u2, .int .u32 u3, .int .u32 u4, .int .u32 u5, .int .u32 u6, .int .u32 u7, .int .i64 P2], undef, .int .i64 D, .int .i64 E, undef, .pointer (some ⟨b10, 0, none⟩), undef, .pointer (some ⟨b10, 1, none⟩), undef, .pointer (some ⟨b10, 5, none⟩), undef]) ?ghm ?ghr ?ghc ?ghnd ?ghlit ?gh0 ?ghW ?ghF ?ghS ?gops ?gdone
        case ghm => kernel_rfl
        case ghr => kernel_rfl
        case ghc => kernel_rfl
        case ghnd => decide
        case ghlit => intro vs; rfl
        case gh0 => exact hS0
        case ghW => exact fun k W W2 h hb => stW_below h hb
        case ghF => exact mixT_stable (by
          intro p hp
          simp only [List.mem_cons, List.not_mem_nil, or_false] at hp
          rcases hp with rfl | rfl | rfl
          · exact fun v W W2 h hb => TupR.below h hb
          · exact fun v W W2 h hb => TupR.below h hb
          · exact fun v W W2 h hb => lst_below h hb)
        case ghS => exact fun kk W W2 _ hs i v h => mixT_keep (R := SafeStep) (ps := [(6, (TupR (.agg #[.int .u32 u0, .int .u32 u1, .int .u32 u2, .int .u32 u3, .int .u32 u4, .int .u32 u5, .int .u32 u6, .int .u32 u7, .int .i64 P2]) ms D E)), (7, (TupR (.agg #[.int .u32 u0, .int .u32 u1, .int .u32 u2, .int .u32 u3, .int .u32 u4, .int .u32 u5, .int .u32 u6, .int .u32 u7, .int .i64 P2]) ms D E)), (9, (fun v W => Lst .i64 3 W v ms))]) (l := [.agg #[.int .u32 s0, .int .u32 s1, .int .u32 s2, .int .u32 s3, .int .u32 s4, .int .u32 s5, .int .u32 s6, .int .u32 s7, .int .i64 PC], .pointer (some ⟨X.x, 0, none⟩), .pointer (some ⟨X.x, 0, none⟩), .pointer (some ⟨X.x, 0, none⟩), .agg #[X.cv, .int .i64 k.lo, .int .i64 k.un], .int .i64 (t : Int), undef, undef, .agg #[.int .u32 u0, .int .u32 u1, .int .u32 u2, .int .u32 u3, .int .u32 u4, .int .u32 u5, .int .u32 u6, .int .u32 u7, .int .i64 P2], undef, .int .i64 D, .int .i64 E, undef, .pointer (some ⟨b10, 0, none⟩), undef, .pointer (some ⟨b10, 1, none⟩), undef, .pointer (some ⟨b10, 5, none⟩), undef]) (by
          intro p hp
          simp only [List.mem_cons, List.not_mem_nil, or_false] at hp
          rcases hp with rfl | rfl | rfl
          · rintro v W W2 ⟨m5, e5, h5⟩ hs; exact ⟨m5, e5, hs.lst h5⟩
          · rintro v W W2 ⟨m5, e5, h5⟩ hs; exact ⟨m5, e5, hs.lst h5⟩
          · exact fun v W W2 h hs => hs.lst h) i v W W2 h hs
        case gops =>
          refine ⟨?_, ?_, ?_, ?_, ?_, ?_, ?_, ?_, ?_, ?_, ?_, ?_, ?_, ?_, ?_, ?_, ?_, ?_, ?_, trivial⟩
          · intro vs W kk h1 h2 hW hd
            obtain rfl : kk = 0 := Nat.le_zero.1 h2
            refine leaves_free rfl ?_
            obtain ⟨jb, jc, jo⟩ : StB w X { X with M := M' } k RM W ∧ Cb W b9 [s0, s1, s2, s3, s4, s5, s6, s7] PC ∧ Bk W b10 51 #[.slice none 0 0, .int .i64 (-1), .int .i64 AD, .bool WR, .bool false, .int .i64 0] := id hW; have c0x : W.cell? ⟨X.x, 0, none⟩ = some X.cv := jb.ex.c0; have c1x : W.cell? ⟨X.x, 1, none⟩ = some (.int .i64 k.lo) := jb.ex.c1; have c2x : W.cell? ⟨X.x, 2, none⟩ = some (.int .i64 k.un) := jb.ex.c2; obtain ⟨c0, c1, c2, c3, c4, c5, c6, c7, c8⟩ := jc.cells; have zf := Bk.free jc; clear jb jc jo
            clear hd
            go_simp
            exact ⟨rfl, Below.refl _ _⟩
          · intro vs W kk h1 h2 hW hd
            obtain rfl : kk = 0 := Nat.le_zero.1 h2
            refine leaves_free rfl ?_
            clear hd
            go_simp
            exact ⟨rfl, Below.refl _ _⟩
          · intro vs W kk h1 h2 hW hd
            obtain rfl : kk = 0 := Nat.le_zero.1 h2
            refine leaves_free rfl ?_
            have e1 : vs 1 = .pointer (some ⟨X.x, 0, none⟩) := hd 1 (by decide)
            clear hd
            go_simp
            exact ⟨rfl, Below.refl _ _⟩
          · intro vs W kk h1 h2 hW hd
            obtain rfl : kk = 0 := Nat.le_zero.1 h2
            refine leaves_free rfl ?_
            have e2 : vs 2 = .pointer (some ⟨X.x, 0, none⟩) := hd 2 (by decide)
            clear hd
            go_simp
            exact ⟨rfl, Below.refl _ _⟩
          · intro vs W kk h1 h2 hW hd
            obtain rfl : kk = 0 := Nat.le_zero.1 h2
            refine leaves_free rfl ?_
            have e3 : vs 3 = .pointer (some ⟨X.x, 0, none⟩) := hd 3 (by decide)
            obtain ⟨jb, jc, jo⟩ : StB w X { X with M := M' } k RM W ∧ Cb W b9 [s0, s1, s2, s3, s4, s5, s6, s7] PC ∧ Bk W b10 51 #[.slice none 0 0, .int .i64 (-1), .int .i64 AD, .bool WR, .bool false, .int .i64 0] := id hW; have c0x : W.cell? ⟨X.x, 0, none⟩ = some X.cv := jb.ex.c0; have c1x : W.cell? ⟨X.x, 1, none⟩ = some (.int .i64 k.lo) := jb.ex.c1; have c2x : W.cell? ⟨X.x, 2, none⟩ = some (.int .i64 k.un) := jb.ex.c2; obtain ⟨c0, c1, c2, c3, c4, c5, c6, c7, c8⟩ := jc.cells; have zf := Bk.free jc; clear jb jc jo
            clear hd
            go_simp
            exact ⟨rfl, Below.refl _ _⟩
          · intro vs W kk h1 h2 hW hd
            obtain rfl : kk = 0 := Nat.le_zero.1 h2
            refine leaves_free rfl ?_
            clear hd
            go_simp
            exact ⟨rfl, Below.refl _ _⟩
          · intro vs W kk h1 h2 hW hd
            obtain rfl : kk = 0 := Nat.le_zero.1 h2
            refine leaves_free rfl ?_
            have e0 : vs 0 = .agg #[.int .u32 s0, .int .u32 s1, .int .u32 s2, .int .u32 s3, .int .u32 s4, .int .u32 s5, .int .u32 s6, .int .u32 s7, .int .i64 PC] := hd 0 (by decide)
            have e4 : vs 4 = .agg #[X.cv, .int .i64 k.lo, .int .i64 k.un] := hd 4 (by decide)
            have e5 : vs 5 = .int .i64 (t : Int) := hd 5 (by decide)
            have HS := Lib.hid (HRun.out W (StB.ex hW.1))
            clear hd
            go_simp
            refine HS.out.mono ?_
            rintro e z ⟨m5, he, hm5, hz⟩
            exact ⟨_, he, ⟨m5, rfl, hm5⟩, hz⟩
          · intro vs W kk h1 h2 hW hd
            obtain rfl : kk = 0 := Nat.le_zero.1 h2
            refine leaves_free rfl ?_
            obtain ⟨m5, e6, hm5⟩ : TupR (.agg #[.int .u32 u0, .int .u32 u1, .int .u32 u2, .int .u32 u3, .int .u32 u4, .int .u32 u5, .int .u32 u6, .int .u32 u7, .int .i64 P2]) ms D E (vs 6) W := hd 6 (by decide)
            clear hd
            go_simp
            exact ⟨⟨m5, rfl, hm5⟩, Below.refl _ _⟩
          · intro vs W kk h1 h2 hW hd
            obtain rfl : kk = 0 := Nat.le_zero.1 h2
            refine leaves_free rfl ?_
            obtain ⟨m5, e7, hm5⟩ : TupR (.agg #[.int .u32 u0, .int .u32 u1, .int .u32 u2, .int .u32 u3, .int .u32 u4, .int .u32 u5, .int .u32 u6, .int .u32 u7, .int .i64 P2]) ms D E (vs 7) W := hd 7 (by decide)
            clear hd
            go_simp
            exact ⟨rfl, Below.refl _ _⟩
          · intro vs W kk h1 h2 hW hd
            refine leaves_free rfl ?_
            obtain ⟨m5, e7, hm5⟩ : TupR (.agg #[.int .u32 u0, .int .u32 u1, .int .u32 u2, .int .u32 u3, .int .u32 u4, .int .u32 u5, .int .u32 u6, .int .u32 u7, .int .i64 P2]) ms D E (vs 7) W := hd 7 (by decide)
            clear hd
            go_simp
            exact ⟨hm5, Below.refl _ _⟩
          · intro vs W kk h1 h2 hW hd
            refine leaves_free rfl ?_
            obtain ⟨m5, e7, hm5⟩ : TupR (.agg #[.int .u32 u0, .int .u32 u1, .int .u32 u2, .int .u32 u3, .int .u32 u4, .int .u32 u5, .int .u32 u6, .int .u32 u7, .int .i64 P2]) ms D E (vs 7) W := hd 7 (by decide)
            clear hd
            go_simp
            exact ⟨rfl, Below.refl _ _⟩
          · intro vs W kk h1 h2 hW hd
            refine leaves_free rfl ?_
            obtain ⟨m5, e7, hm5⟩ : TupR (.agg #[.int .u32 u0, .int .u32 u1, .int .u32 u2, .int .u32 u3, .int .u32 u4, .int .u32 u5, .int .u32 u6, .int .u32 u7, .int .i64 P2]) ms D E (vs 7) W := hd 7 (by decide)
            clear hd
            go_simp
            exact ⟨rfl, Below.refl _ _⟩
          · intro vs W hW hd
            have e8 : vs 8 = .agg #[.int .u32 u0, .int .u32 u1, .int .u32 u2, .int .u32 u3, .int .u32 u4, .int .u32 u5, .int .u32 u6, .int .u32 u7, .int .i64 P2] := hd 8 (by decide)
            obtain ⟨jb, jc, jo⟩ : StB w X { X with M := M' } k RM W ∧ Cb W b9 [s0, s1, s2, s3, s4, s5, s6, s7] PC ∧ Bk W b10 51 #[.slice none 0 0, .int .i64 (-1), .int .i64 AD, .bool WR, .bool false, .int .i64 0] := id hW; have c0x : W.cell? ⟨X.x, 0, none⟩ = some X.cv := jb.ex.c0; have c1x : W.cell? ⟨X.x, 1, none⟩ = some (.int .i64 k.lo) := jb.ex.c1; have c2x : W.cell? ⟨X.x, 2, none⟩ = some (.int .i64 k.un) := jb.ex.c2; obtain ⟨c0, c1, c2, c3, c4, c5, c6, c7, c8⟩ := jc.cells; have zf := Bk.free jc; clear jb jc jo
            refine leavesIf_free rfl ?_
            clear hd
            go_simp
            exact ⟨rfl, stW_1 hFr hW⟩
          · intro vs W kk h1 h2 hW hd
            refine leaves_free rfl ?_
            clear hd
            go_simp
            exact ⟨rfl, Below.refl _ _⟩
          · intro vs W hW hd
            have h9 : Lst .i64 3 W (vs 9) ms := hd 9 (by decide)
            obtain ⟨a9, c9, e9x, -⟩ := h9.is
            have e13 : vs 13 = .pointer (some ⟨b10, 0, none⟩) := hd 13 (by decide)
            obtain ⟨jb, jc, jo⟩ : StB w X { X with M := M' } k RM W ∧ Cb W b9 [u0, u1, u2, u3, u4, u5, u6, u7] P2 ∧ Bk W b10 51 #[.slice none 0 0, .int .i64 (-1), .int .i64 AD, .bool WR, .bool false, .int .i64 0] := id hW; obtain ⟨o0, o1, o2, o3, o4, o5⟩ : W.cell? ⟨b10, 0, none⟩ = some (.slice none 0 0) ∧ W.cell? ⟨b10, 1, none⟩ = some (.int .i64 (-1)) ∧ W.cell? ⟨b10, 2, none⟩ = some (.int .i64 AD) ∧ W.cell? ⟨b10, 3, none⟩ = some (.bool WR) ∧ W.cell? ⟨b10, 4, none⟩ = some (.bool false) ∧ W.cell? ⟨b10, 5, none⟩ = some (.int .i64 0) := ⟨jo.cell 0, jo.cell 1, jo.cell 2, jo.cell 3, jo.cell 4, jo.cell 5⟩; have of := Bk.free jo; clear jb jc jo
            refine leavesIf_free rfl ?_
            clear hd
            go_simp
            rw [← e9x]
            exact ⟨rfl, stW_2 hFr hW h9⟩
          · intro vs W kk h1 h2 hW hd
            refine leaves_free rfl ?_
            clear hd
            go_simp
            exact ⟨rfl, Below.refl _ _⟩
          · intro vs W hW hd
            have e10 : vs 10 = .int .i64 D := hd 10 (by decide)
            have e15 : vs 15 = .pointer (some ⟨b10, 1, none⟩) := hd 15 (by decide)
            obtain ⟨jb, jc, v5, hv5, jo⟩ : StB w X { X with M := M' } k RM W ∧ Cb W b9 [u0, u1, u2, u3, u4, u5, u6, u7] P2 ∧ ∃ v, Lst .i64 3 W v ms ∧ Bk W b10 51 #[v, .int .i64 (-1), .int .i64 AD, .bool WR, .bool false, .int .i64 0] := id hW; obtain ⟨o0, o1, o2, o3, o4, o5⟩ : W.cell? ⟨b10, 0, none⟩ = some (v5) ∧ W.cell? ⟨b10, 1, none⟩ = some (.int .i64 (-1)) ∧ W.cell? ⟨b10, 2, none⟩ = some (.int .i64 AD) ∧ W.cell? ⟨b10, 3, none⟩ = some (.bool WR) ∧ W.cell? ⟨b10, 4, none⟩ = some (.bool false) ∧ W.cell? ⟨b10, 5, none⟩ = some (.int .i64 0) := ⟨jo.cell 0, jo.cell 1, jo.cell 2, jo.cell 3, jo.cell 4, jo.cell 5⟩; have of := Bk.free jo; clear jb jc jo hv5
            refine leavesIf_free rfl ?_
            clear hd
            go_simp
            exact ⟨rfl, stW_3 hFr hW⟩
          · intro vs W kk h1 h2 hW hd
            refine leaves_free rfl ?_
            clear hd
            go_simp
            exact ⟨rfl, Below.refl _ _⟩
          · intro vs W hW hd
            have e11 : vs 11 = .int .i64 E := hd 11 (by decide)
            have e17 : vs 17 = .pointer (some ⟨b10, 5, none⟩) := hd 17 (by decide)
            obtain ⟨jb, jc, v5, hv5, jo⟩ : StB w X { X with M := M' } k RM W ∧ Cb W b9 [u0, u1, u2, u3, u4, u5, u6, u7] P2 ∧ ∃ v, Lst .i64 3 W v ms ∧ Bk W b10 51 #[v, .int .i64 D, .int .i64 AD, .bool WR, .bool false, .int .i64 0] := id hW; obtain ⟨o0, o1, o2, o3, o4, o5⟩ : W.cell? ⟨b10, 0, none⟩ = some (v5) ∧ W.cell? ⟨b10, 1, none⟩ = some (.int .i64 D) ∧ W.cell? ⟨b10, 2, none⟩ = some (.int .i64 AD) ∧ W.cell? ⟨b10, 3, none⟩ = some (.bool WR) ∧ W.cell? ⟨b10, 4, none⟩ = some (.bool false) ∧ W.cell? ⟨b10, 5, none⟩ = some (.int .i64 0) := ⟨jo.cell 0, jo.cell 1, jo.cell 2, jo.cell 3, jo.cell 4, jo.cell 5⟩; have of := Bk.free jo; clear jb jc jo hv5
            refine leavesIf_free rfl ?_
            clear hd
            go_simp
            exact ⟨rfl, stW_4 hFr hW⟩
        case gdone =>
          intro vs W hW hf
          have f0 : vs 0 = .agg #[.int .u32 s0, .int .u32 s1, .int .u32 s2, .int .u32 s3, .int .u32 s4, .int .u32 s5, .int .u32 s6, .int .u32 s7, .int .i64 PC] := hf 0 (by decide)
          have f1 : vs 1 = .pointer (some ⟨X.x, 0, none⟩) := hf 1 (by decide)
          have f2 : vs 2 = .pointer (some ⟨X.x, 0, none⟩) := hf 2 (by decide)
          have f3 : vs 3 = .pointer (some ⟨X.x, 0, none⟩) := hf 3 (by decide)
          have f4 : vs 4 = .agg #[X.cv, .int .i64 k.lo, .int .i64 k.un] := hf 4 (by decide)
          have f5 : vs 5 = .int .i64 (t : Int) := hf 5 (by decide)
          have f8 : vs 8 = .agg #[.int .u32 u0, .int .u32 u1, .int .u32 u2, .int .u32 u3, .int .u32 u4, .int .u32 u5, .int .u32 u6, .int .u32 u7, .int .i64 P2] := hf 8 (by decide)
          have f10 : vs 10 = .int .i64 D := hf 10 (by decide)
          have f11 : vs 11 = .int .i64 E := hf 11 (by decide)
          have f13 : vs 13 = .pointer (some ⟨b10, 0, none⟩) := hf 13 (by decide)
          have f15 : vs 15 = .pointer (some ⟨b10, 1, none⟩) := hf 15 (by decide)
          have f17 : vs 17 = .pointer (some ⟨b10, 5, none⟩) := hf 17 (by decide)
          simp only [f0, f1, f2, f3, f4, f5, f8, f10, f11, f13, f15, f17]
          clear f0 f1 f2 f3 f4 f5 f8 f10 f11 f13 f15 f17
          obtain ⟨⟨hx, hst, q0⟩, c9, m2, hl5, o10⟩ : StB w X { X with M := M' } k RM W ∧ Cb W b9 [u0, u1, u2, u3, u4, u5, u6, u7] P2 ∧ ∃ v, Lst .i64 3 W v ms ∧ Bk W b10 51 #[v, .int .i64 D, .int .i64 AD, .bool WR, .bool false, .int .i64 E] := id hW
          clear hW hf hS0 HRun
          generalize vs 6 = w6 at *
          generalize vs 7 = w7 at *
          generalize vs 9 = w9 at *
          obtain ⟨a9, ca9, e9, -⟩ := hl5.is
          subst e9
          go_upto_region 9 with fail
          have cx5 : W.cell? ⟨X.x, 5, none⟩ = some (.slice (some ⟨X.kb, 0, none⟩) k.n k.n) := hx.c5
          obtain ⟨r0, r1, r2, r3, r4, r5, r6, r7, pc0, ec0⟩ := hx.core_cons ht
          obtain ⟨k0, k1, k2, k3, k4, k5, k6, k7, k8⟩ : _ := hx.core ht ec0
          have zf : ∀ i, W.frozen? ⟨X.kb, i, none⟩ = false := hx.free
          obtain ⟨d0, d1, d2, d3, d4, d5, d6, d7, d8⟩ := c9.cells
          have hkb : X.kb < w.heap.size := hOwn _ (.inr (.inr (.inl rfl)))
          have hkb2 : w.heap.size ≠ X.kb := by omega
          have hkb3 : b10 ≠ X.kb := by have := hFr.n9; have := hFr.n10; omega
          go_region
          have h4 := hx.put ht (c := ⟨[u0, u1, u2, u3, u4, u5, u6, u7], P2⟩) HE9.out
          have hw4 : Within W (putW W X.kb (t * 9) (corC [u0, u1, u2, u3, u4, u5, u6, u7] P2)) (fun i => i = X.kb) := .of_grown (putW_only _ _ _) (by rintro i e; injection e with e; exact .inl e.symm)
          replace q0 := Bk.within q0 hw4 hkb2
          replace o10 := Bk.within o10 hw4 hkb3
          have l5 := lst_within hl5 hw4 (by rintro b' rfl; exact ⟨_, _, hx.cores, by decide⟩)
          have st4 := hst.then_ (XStays.put (X := { X with M := M' }) (n := k.n) (w := W) (t := t * 9) (vs := corC [u0, u1, u2, u3, u4, u5, u6, u7] P2))
          generalize hv4 : (((((((((W.setCell ⟨X.kb, t * 9, none⟩ (.int .u32 u0)).setCell ⟨X.kb, t * 9 + 1, none⟩ (.int .u32 u1)).setCell ⟨X.kb, t * 9 + 2, none⟩ (.int .u32 u2)).setCell ⟨X.kb, t * 9 + 3, none⟩ (.int .u32 u3)).setCell ⟨X.kb, t * 9 + 4, none⟩ (.int .u32 u4)).setCell ⟨X.kb, t * 9 + 5, none⟩ (.int .u32 u5)).setCell ⟨X.kb, t * 9 + 6, none⟩ (.int .u32 u6)).setCell ⟨X.kb, t * 9 + 7, none⟩ (.int .u32 u7)).setCell ⟨X.kb, t * 9 + 8, none⟩ (.int .i64 P2)) = v4
          replace hv4 : putW W X.kb (t * 9) (corC [u0, u1, u2, u3, u4, u5, u6, u7] P2) = v4 := hv4
          have hv4' : putW W (XP.kb { X with M := M' }) (t * 9) (corC [u0, u1, u2, u3, u4, u5, u6, u7] P2) = v4 := hv4
          simp only [hv4] at q0 o10 st4 l5
          replace h4 : Ex v4 { X with M := M' } k { RM with cs := updN RM.cs t ⟨[u0, u1, u2, u3, u4, u5, u6, u7], P2⟩ } := by rw [← hv4]; exact h4
          clear hv4 hv4' hw4 d0 d1 d2 d3 d4 d5 d6 d7 d8 k0 k1 k2 k3 k4 k5 k6 k7 k8 zf cx5 hx hst c9
          have hx := h4.below (Below.refl _ v4).drew
          replace q0 : Bk v4.drew w.heap.size 51 #[.slice none 0 0, .int .i64 0, .int .i64 0, .bool false, .bool false, .int .i64 0] := q0
          replace o10 : Bk v4.drew b10 51 #[.slice a9 ms.length ca9, .int .i64 D, .int .i64 AD, .bool WR, .bool false, .int .i64 E] := o10
          replace l5 : Lst .i64 3 v4.drew _ ms := l5
          have hst := st4.grown (Below.refl _ v4).drew
          clear h4 st4
          generalize v4.drew = v5 at *
          obtain ⟨n0, n1, n2, n3, n4, n5⟩ : v5.cell? ⟨b10, 0, none⟩ = some (.slice a9 ms.length ca9) ∧ v5.cell? ⟨b10, 1, none⟩ = some (.int .i64 D) ∧ v5.cell? ⟨b10, 2, none⟩ = some (.int .i64 AD) ∧ v5.cell? ⟨b10, 3, none⟩ = some (.bool WR) ∧ v5.cell? ⟨b10, 4, none⟩ = some (.bool false) ∧ v5.cell? ⟨b10, 5, none⟩ = some (.int .i64 E) := ⟨o10.cell 0, o10.cell 1, o10.cell 2, o10.cell 3, o10.cell 4, o10.cell 5⟩
          obtain ⟨y0, y1, y2, y3, y4, y5⟩ : v5.cell? ⟨w.heap.size, 0, none⟩ = some (.slice none 0 0) ∧ v5.cell? ⟨w.heap.size, 1, none⟩ = some (.int .i64 0) ∧ v5.cell? ⟨w.heap.size, 2, none⟩ = some (.int .i64 0) ∧ v5.cell? ⟨w.heap.size, 3, none⟩ = some (.bool false) ∧ v5.cell? ⟨w.heap.size, 4, none⟩ = some (.bool false) ∧ v5.cell? ⟨w.heap.size, 5, none⟩ = some (.int .i64 0) := ⟨q0.cell 0, q0.cell 1, q0.cell 2, q0.cell 3, q0.cell 4, q0.cell 5⟩
          have zf := Bk.free q0
          have p1 := put6_bk q0 (.slice a9 ms.length ca9) (.int .i64 D) (.int .i64 AD) (.bool WR) (.bool false) (.int .i64 E)
          have p2 := put6_within (y := v5) (g := w.heap.size) (.slice a9 ms.length ca9) (.int .i64 D) (.int .i64 AD) (.bool WR) (.bool false) (.int .i64 E)
          have l6 := lst_within (l5) p2 (by rintro b' rfl; exact ⟨_, _, q0, by decide⟩)
          have h6 := hx.kept p2 (fun i hi e => (hfar i hi).1 e)
          have st6 := hst.far' p2 (fun i e => by omega)
          have HFE := Lib.hid (And.intro l6 (And.intro h6 st6))
          clear l6 h6 st6 hx hst
          go_wp2
          generalize hv9 : ((((((v5.setCell ⟨w.heap.size, 0, none⟩ (.slice a9 ms.length ca9)).setCell ⟨w.heap.size, 1, none⟩ (.int .i64 D)).setCell ⟨w.heap.size, 2, none⟩ (.int .i64 AD)).setCell ⟨w.heap.size, 3, none⟩ (.bool WR)).setCell ⟨w.heap.size, 4, none⟩ (.bool false)).setCell ⟨w.heap.size, 5, none⟩ (.int .i64 E)) = v9
          replace hv9 : put6 v5 w.heap.size (.slice a9 ms.length ca9) (.int .i64 D) (.int .i64 AD) (.bool WR) (.bool false) (.int .i64 E) = v9 := hv9
          rw [hv9] at p1 HFE
          clear hv9 p2 q0 y0 y1 y2 y3 y4 y5 zf
          obtain ⟨o0, o1, o2, o3, o4, o5⟩ : v9.cell? ⟨w.heap.size, 0, none⟩ = some (.slice a9 ms.length ca9) ∧ v9.cell? ⟨w.heap.size, 1, none⟩ = some (.int .i64 D) ∧ v9.cell? ⟨w.heap.size, 2, none⟩ = some (.int .i64 AD) ∧ v9.cell? ⟨w.heap.size, 3, none⟩ = some (.bool WR) ∧ v9.cell? ⟨w.heap.size, 4, none⟩ = some (.bool false) ∧ v9.cell? ⟨w.heap.size, 5, none⟩ = some (.int .i64 E) := ⟨p1.cell 0, p1.cell 1, p1.cell 2, p1.cell 3, p1.cell 4, p1.cell 5⟩
          exact bodyPost_ret (v := .agg #[.slice a9 ms.length ca9, .int .i64 D, .int .i64 AD, .bool WR, .bool false, .int .i64 E]) (by simp [results, Tryz.results12, go_sem, o0, o1, o2, o3, o4, o5]) rfl (by show Came w X k (behindM k RM t _ AD WR false) _ _; rw [HDo.out]; exact ⟨.slice a9 ms.length ca9, M', rfl, HFE.out.1, HFE.out.2.1, HFE.out.2.2⟩)
end
end Go.Proofs.YtpinpipjlongaaaGreat
