/- core.One: a core behind one instruction. -/
import Derived.Test.YtpinpipjlongaaaCoreP
namespace Go.Proofs.Ytpinpipjlongaaa
set_option maxRecDepth 100000
open Go.ChangeShapes Go.WideShapes Go.ChangeAt Go.RowKit
set_option linter.unusedVariables false

/-- Nine cells of a block are others. -/
def put9 (y : World) (g : Nat) (a b c d e f h i j : Value) : World := ((((((((y.setCell ⟨g, 0, none⟩ a).setCell ⟨g, 1, none⟩ b).setCell ⟨g, 2, none⟩ c).setCell ⟨g, 3, none⟩ d).setCell ⟨g, 4, none⟩ e).setCell ⟨g, 5, none⟩ f).setCell ⟨g, 6, none⟩ h).setCell ⟨g, 7, none⟩ i).setCell ⟨g, 8, none⟩ j
theorem put9_bk {y : World} {g : Nat} {t : TypeId} {x0 x1 x2 x3 x4 x5 x6 x7 x8 : Value} (hb : Bk y g t #[x0, x1, x2, x3, x4, x5, x6, x7, x8]) (a b c d e f h i j : Value) : Bk (put9 y g a b c d e f h i j) g t #[a, b, c, d, e, f, h, i, j] := by
  have h8 := ((((((((hb.put 0 a).put 1 b).put 2 c).put 3 d).put 4 e).put 5 f).put 6 h).put 7 i).put 8 j
  unfold put9
  simpa only [List.setIfInBounds_toArray, List.set_cons_zero, List.set_cons_succ] using h8
theorem put9_below {B : Nat} {w y : World} {g : Nat} (hb : Below B w y) (hg : B ≤ g) (a b c d e f h i j : Value) : Below B w (put9 y g a b c d e f h i j) :=
  ((((((((hb.setCell hg _).setCell hg _).setCell hg _).setCell hg _).setCell hg _).setCell hg _).setCell hg _).setCell hg _).setCell hg _
theorem put9_off {y : World} {g b : Nat} {t : TypeId} {cs : Array Value} (hk : Bk y b t cs) (hne : b ≠ g) (a' b' c d e f h i j : Value) : Bk (put9 y g a' b' c d e f h i j) b t cs :=
  ((((((((hk.off hne _).off hne _).off hne _).off hne _).off hne _).off hne _).off hne _).off hne _).off hne _

/-- A pointer to a new core, all zero. -/
def NewC (n : Nat) (v : Value) (W : World) : Prop := ∃ b, v = .pointer (some ⟨b, 0, none⟩) ∧ n ≤ b ∧ Cb W b [0, 0, 0, 0, 0, 0, 0, 0] 0
theorem NewC.below {n : Nat} {v : Value} {W W' : World} (h : NewC n v W) (hb : Below W.heap.size W W') : NewC n v W' := by
  obtain ⟨b, e, hn, h⟩ := h
  exact ⟨b, e, hn, h.below hb⟩

set_option maxHeartbeats 2000000 in
theorem cOne (xs : List Int) (pc : Int) (i : Ins) (self : Int) (hx : Eight xs) (hi : OkI i) (h0 : 0 ≤ self) (h1 : self < 4294967296) (p0 : -9223372036854775808 ≤ pc) (p1 : pc ≤ 1099511627776) (w : World) :
    Calls Try.prog 44 #[cv xs pc, iv i, .int .i64 self] w fun e w' => e = .returned (cv (oneR xs i self) (oneP xs pc i)) ∧ Below w.heap.size w w' := by
  have HM := Lib.hid (fun W => cMemory i W)
  have HPB := Lib.hid (fun (hm : memB i.op = false) W => cPlaceBehind xs pc i hx hi hm p0 p1 W)
  have HVL := Lib.hid (fun (hm : memB i.op = false) W => cValue xs pc i self hx hi hm h0 h1 W)
  have HR : Hid (∀ W, Calls Try.prog 70 #[.int .i64 i.d] W fun e w' => e = .returned (.int .i64 i.d) ∧ W = w') := Lib.hid fun W => cRegister i.d hi.d W
  have HO : Hid (oneR xs i self = if memB i.op then xs else match valueO xs i self with | some v => xs.set i.d.toNat v | none => xs) := Lib.hid rfl
  have HP : Hid (oneP xs pc i = if memB i.op then pc else placeL xs pc i) := Lib.hid rfl
  have hd := hi.d
  obtain ⟨h8, hxu⟩ := hx
  generalize oneR xs i self = XS at *
  generalize oneP xs pc i = PC at *
  generalize placeL xs pc i = PL at *
  generalize valueO xs i self = VO at *
  obtain ⟨op, d, s, t, u, a', k, pl⟩ := i
  clear hi
  simp only at hd HM HPB HVL HR HO HP
  generalize memB op = m at *
  obtain ⟨dn, rfl⟩ : ∃ n : Nat, d = n := ⟨d.toNat, by omega⟩
  have hd8 : dn < 8 := by omega
  simp only [Int.toNat_natCast] at HO
  obtain ⟨r0, r1, r2, r3, r4, r5, r6, r7, rfl⟩ := eight_cons h8
  have q0 : Cb (((w.alloc (.cells #[.int .u32 r0, .int .u32 r1, .int .u32 r2, .int .u32 r3, .int .u32 r4, .int .u32 r5, .int .u32 r6, .int .u32 r7, .int .i64 pc] 52)).alloc (.cells #[.int .i64 op, .int .i64 dn, .int .i64 s, .int .i64 t, .int .i64 u, .int .i64 a', .int .u32 k, .int .i64 pl] 55)).alloc (.cells #[.int .u32 0, .int .u32 0, .int .u32 0, .int .u32 0, .int .u32 0, .int .u32 0, .int .u32 0, .int .u32 0, .int .i64 0] 52)) w.heap.size [r0, r1, r2, r3, r4, r5, r6, r7] pc := ((Cb.made w [r0, r1, r2, r3, r4, r5, r6, r7] pc).alloc (.cells #[.int .i64 op, .int .i64 dn, .int .i64 s, .int .i64 t, .int .i64 u, .int .i64 a', .int .u32 k, .int .i64 pl] 55)).alloc (.cells #[.int .u32 0, .int .u32 0, .int .u32 0, .int .u32 0, .int .u32 0, .int .u32 0, .int .u32 0, .int .u32 0, .int .i64 0] 52)
  have q1 : Ib (((w.alloc (.cells #[.int .u32 r0, .int .u32 r1, .int .u32 r2, .int .u32 r3, .int .u32 r4, .int .u32 r5, .int .u32 r6, .int .u32 r7, .int .i64 pc] 52)).alloc (.cells #[.int .i64 op, .int .i64 dn, .int .i64 s, .int .i64 t, .int .i64 u, .int .i64 a', .int .u32 k, .int .i64 pl] 55)).alloc (.cells #[.int .u32 0, .int .u32 0, .int .u32 0, .int .u32 0, .int .u32 0, .int .u32 0, .int .u32 0, .int .u32 0, .int .i64 0] 52)) (w.heap.size + 1) ⟨op, dn, s, t, u, a', k, pl⟩ := by
    have := Bk.alloc (Ib.made (w.alloc (.cells #[.int .u32 r0, .int .u32 r1, .int .u32 r2, .int .u32 r3, .int .u32 r4, .int .u32 r5, .int .u32 r6, .int .u32 r7, .int .i64 pc] 52)) op dn s t u a' k pl) (.cells #[.int .u32 0, .int .u32 0, .int .u32 0, .int .u32 0, .int .u32 0, .int .u32 0, .int .u32 0, .int .u32 0, .int .i64 0] 52)
    rw [World.size_alloc] at this
    exact this
  have q2 : Cb (((w.alloc (.cells #[.int .u32 r0, .int .u32 r1, .int .u32 r2, .int .u32 r3, .int .u32 r4, .int .u32 r5, .int .u32 r6, .int .u32 r7, .int .i64 pc] 52)).alloc (.cells #[.int .i64 op, .int .i64 dn, .int .i64 s, .int .i64 t, .int .i64 u, .int .i64 a', .int .u32 k, .int .i64 pl] 55)).alloc (.cells #[.int .u32 0, .int .u32 0, .int .u32 0, .int .u32 0, .int .u32 0, .int .u32 0, .int .u32 0, .int .u32 0, .int .i64 0] 52)) (w.heap.size + 1 + 1) [0, 0, 0, 0, 0, 0, 0, 0] 0 := by
    have := Cb.made ((w.alloc (.cells #[.int .u32 r0, .int .u32 r1, .int .u32 r2, .int .u32 r3, .int .u32 r4, .int .u32 r5, .int .u32 r6, .int .u32 r7, .int .i64 pc] 52)).alloc (.cells #[.int .i64 op, .int .i64 dn, .int .i64 s, .int .i64 t, .int .i64 u, .int .i64 a', .int .u32 k, .int .i64 pl] 55)) [0, 0, 0, 0, 0, 0, 0, 0] 0
    rw [World.size_alloc, World.size_alloc] at this
    exact this
  have b0 : Below w.heap.size w (((w.alloc (.cells #[.int .u32 r0, .int .u32 r1, .int .u32 r2, .int .u32 r3, .int .u32 r4, .int .u32 r5, .int .u32 r6, .int .u32 r7, .int .i64 pc] 52)).alloc (.cells #[.int .i64 op, .int .i64 dn, .int .i64 s, .int .i64 t, .int .i64 u, .int .i64 a', .int .u32 k, .int .i64 pl] 55)).alloc (.cells #[.int .u32 0, .int .u32 0, .int .u32 0, .int .u32 0, .int .u32 0, .int .u32 0, .int .u32 0, .int .u32 0, .int .i64 0] 52)) := (((Below.refl _ _).alloc (Nat.le_refl _) _).alloc (by simp) _).alloc (by simp; omega) _
  have hsz : (((w.alloc (.cells #[.int .u32 r0, .int .u32 r1, .int .u32 r2, .int .u32 r3, .int .u32 r4, .int .u32 r5, .int .u32 r6, .int .u32 r7, .int .i64 pc] 52)).alloc (.cells #[.int .i64 op, .int .i64 dn, .int .i64 s, .int .i64 t, .int .i64 u, .int .i64 a', .int .u32 k, .int .i64 pl] 55)).alloc (.cells #[.int .u32 0, .int .u32 0, .int .u32 0, .int .u32 0, .int .u32 0, .int .u32 0, .int .u32 0, .int .u32 0, .int .i64 0] 52)).heap.size = w.heap.size + 3 := by simp
  unfold cv iv at *
  simp only [corC, List.map_cons, List.map_nil, List.cons_append, List.nil_append] at HVL HPB ⊢
  go_enter Try.func44, Try.ntmps44
  go_upto_region 1 with fail
  generalize ((w.alloc (.cells #[.int .u32 r0, .int .u32 r1, .int .u32 r2, .int .u32 r3, .int .u32 r4, .int .u32 r5, .int .u32 r6, .int .u32 r7, .int .i64 pc] 52)).alloc (.cells #[.int .i64 op, .int .i64 dn, .int .i64 s, .int .i64 t, .int .i64 u, .int .i64 a', .int .u32 k, .int .i64 pl] 55)).alloc (.cells #[.int .u32 0, .int .u32 0, .int .u32 0, .int .u32 0, .int .u32 0, .int .u32 0, .int .u32 0, .int .u32 0, .int .i64 0] 52) = x at *
  obtain ⟨c0, c1, c2, c3, c4, c5, c6, c7, c8⟩ := q0.cells
  obtain ⟨e0, e1, e2, e3, e4, e5, e6, e7⟩ := q1.cells
  simp only at e0 e1 e2 e3 e4 e5 e6 e7
  go_wp2_with fail
  refine (HM.out _).mono ?_
  rintro e y ⟨rfl, hy⟩
  clear c0 c1 c2 c3 c4 c5 c6 c7 c8 e0 e1 e2 e3 e4 e5 e6 e7
  replace q0 := q0.below hy
  replace q1 := q1.below hy
  replace q2 := q2.below hy
  replace b0 := b0.trans (hy.mono b0.size)
  have hsy := hy.size
  clear hy HM
  obtain ⟨c0, c1, c2, c3, c4, c5, c6, c7, c8⟩ := q0.cells
  obtain ⟨e0, e1, e2, e3, e4, e5, e6, e7⟩ := q1.cells
  simp only at e0 e1 e2 e3 e4 e5 e6 e7
  cases m with
  | true =>
    have zf := Bk.free q2
    obtain ⟨z0, z1, z2, z3, z4, z5, z6, z7, z8⟩ := q2.cells
    clear HPB HVL HR
    go_upto_region 2 with fail
    have h9 := put9_bk q2 (.int .u32 r0) (.int .u32 r1) (.int .u32 r2) (.int .u32 r3) (.int .u32 r4) (.int .u32 r5) (.int .u32 r6) (.int .u32 r7) (.int .i64 pc)
    have b9 := put9_below b0 (show w.heap.size ≤ w.heap.size + 1 + 1 by omega) (.int .u32 r0) (.int .u32 r1) (.int .u32 r2) (.int .u32 r3) (.int .u32 r4) (.int .u32 r5) (.int .u32 r6) (.int .u32 r7) (.int .i64 pc)
    go_wp
    generalize hv9 : (((((((((y.setCell ⟨w.heap.size + 1 + 1, 0, none⟩ (.int .u32 r0)).setCell ⟨w.heap.size + 1 + 1, 1, none⟩ (.int .u32 r1)).setCell ⟨w.heap.size + 1 + 1, 2, none⟩ (.int .u32 r2)).setCell ⟨w.heap.size + 1 + 1, 3, none⟩ (.int .u32 r3)).setCell ⟨w.heap.size + 1 + 1, 4, none⟩ (.int .u32 r4)).setCell ⟨w.heap.size + 1 + 1, 5, none⟩ (.int .u32 r5)).setCell ⟨w.heap.size + 1 + 1, 6, none⟩ (.int .u32 r6)).setCell ⟨w.heap.size + 1 + 1, 7, none⟩ (.int .u32 r7)).setCell ⟨w.heap.size + 1 + 1, 8, none⟩ (.int .i64 pc)) = v9
    replace hv9 : put9 y (w.heap.size + 1 + 1) (.int .u32 r0) (.int .u32 r1) (.int .u32 r2) (.int .u32 r3) (.int .u32 r4) (.int .u32 r5) (.int .u32 r6) (.int .u32 r7) (.int .i64 pc) = v9 := hv9
    rw [hv9] at h9 b9
    obtain ⟨y0, y1, y2, y3, y4, y5, y6, y7, y8⟩ := Cb.cells (r0 := r0) (r1 := r1) (r2 := r2) (r3 := r3) (r4 := r4) (r5 := r5) (r6 := r6) (r7 := r7) (pc := pc) h9
    exact bodyPost_ret (v := .agg #[.int .u32 r0, .int .u32 r1, .int .u32 r2, .int .u32 r3, .int .u32 r4, .int .u32 r5, .int .u32 r6, .int .u32 r7, .int .i64 pc]) (by simp [results, Try.results44, go_sem, y0, y1, y2, y3, y4, y5, y6, y7, y8]) rfl ⟨by rw [HO.out, HP.out]; rfl, b9⟩
  | false =>
    replace HPB := Lib.hid (HPB.out rfl)
    replace HVL := Lib.hid (HVL.out rfl)
    go_upto_region 3 with fail
    have HC : Hid (∀ W, Below y.heap.size y W → Cb W w.heap.size [r0, r1, r2, r3, r4, r5, r6, r7] pc ∧ Ib W (w.heap.size + 1) ⟨op, dn, s, t, u, a', k, pl⟩) := Lib.hid fun W hW => ⟨q0.below hW, q1.below hW⟩
    clear c0 c1 c2 c3 c4 c5 c6 c7 c8 e0 e1 e2 e3 e4 e5 e6 e7
    refine wp_region_tail 7 (fun vs => { tmps := #[.agg #[.int .u32 r0, .int .u32 r1, .int .u32 r2, .int .u32 r3, .int .u32 r4, .int .u32 r5, .int .u32 r6, .int .u32 r7, .int .i64 pc], .agg #[.int .i64 op, .int .i64 (dn : Int), .int .i64 s, .int .i64 t, .int .i64 u, .int .i64 a', .int .u32 k, .int .i64 pl], .int .i64 self, .pointer (some ⟨w.heap.size, 0, none⟩), .pointer (some ⟨w.heap.size + 1, 0, none⟩), undef, .pointer (some ⟨w.heap.size + 1 + 1, 0, none⟩), vs 6, undef, undef, .agg #[.int .i64 op, .int .i64 (dn : Int), .int .i64 s, .int .i64 t, .int .i64 u, .int .i64 a', .int .u32 k, .int .i64 pl], .bool false, undef, vs 0, vs 1, vs 2, vs 3, vs 4, vs 5, undef, undef, undef, undef, undef, undef, undef, undef, undef, undef, undef, undef, undef, undef, undef], defers := [] }) (mixT [(6, NewC y.heap.size)] [.pointer (some ⟨w.heap.size, 0, none⟩), .agg #[.int .u32 r0, .int .u32 r1, .int .u32 r2, .int .u32 r3, .int .u32 r4, .int .u32 r5, .int .u32 r6, .int .u32 r7], .agg #[.int .u32 r0, .int .u32 r1, .int .u32 r2, .int .u32 r3, .int .u32 r4, .int .u32 r5, .int .u32 r6, .int .u32 r7, .int .i64 pc], .agg #[.int .i64 op, .int .i64 (dn : Int), .int .i64 s, .int .i64 t, .int .i64 u, .int .i64 a', .int .u32 k, .int .i64 pl], .int .i64 PL, .agg #[.int .u32 r0, .int .u32 r1, .int .u32 r2, .int .u32 r3, .int .u32 r4, .int .u32 r5, .int .u32 r6, .int .u32 r7, .int .i64 PL], undef]) ?ghm ?ghr ?ght ?glit ?gstable ?gops ?gdone
    case ghm => kernel_rfl
    case ghr => kernel_rfl
    case ght => kernel_rfl
    case glit => intro vs; rfl
    case gstable => exact mixT_stable (by intro p hp; simp at hp; subst hp; exact fun v W W' h hb => h.below hb)
    case gops =>
      simp only [List.take_succ_cons, List.take_zero]
      refine ⟨?_, ?_, ?_, ?_, ?_, ?_, ?_, trivial⟩
      · intro vs W hW hd
        refine leaves_free rfl ?_
        go_simp
        exact ⟨rfl, Below.refl _ _⟩
      · intro vs W hW hd
        refine leaves_free rfl ?_
        have e0 : vs 0 = .pointer (some ⟨w.heap.size, 0, none⟩) := hd 0 (by decide)
        obtain ⟨hq0, hq1⟩ := HC.out W hW; obtain ⟨c0, c1, c2, c3, c4, c5, c6, c7, c8⟩ := hq0.cells; obtain ⟨e0, e1, e2, e3, e4, e5, e6, e7⟩ := hq1.cells; simp only at e0 e1 e2 e3 e4 e5 e6 e7
        go_simp
        exact ⟨rfl, Below.refl _ _⟩
      · intro vs W hW hd
        refine leaves_free rfl ?_
        obtain ⟨hq0, hq1⟩ := HC.out W hW; obtain ⟨c0, c1, c2, c3, c4, c5, c6, c7, c8⟩ := hq0.cells; obtain ⟨e0, e1, e2, e3, e4, e5, e6, e7⟩ := hq1.cells; simp only at e0 e1 e2 e3 e4 e5 e6 e7
        go_simp
        exact ⟨rfl, Below.refl _ _⟩
      · intro vs W hW hd
        refine leaves_free rfl ?_
        obtain ⟨hq0, hq1⟩ := HC.out W hW; obtain ⟨c0, c1, c2, c3, c4, c5, c6, c7, c8⟩ := hq0.cells; obtain ⟨e0, e1, e2, e3, e4, e5, e6, e7⟩ := hq1.cells; simp only at e0 e1 e2 e3 e4 e5 e6 e7
        go_simp
        exact ⟨rfl, Below.refl _ _⟩
      · intro vs W hW hd
        refine leaves_free rfl ?_
        have e2 : vs 2 = .agg #[.int .u32 r0, .int .u32 r1, .int .u32 r2, .int .u32 r3, .int .u32 r4, .int .u32 r5, .int .u32 r6, .int .u32 r7, .int .i64 pc] := hd 2 (by decide)
        have e3 : vs 3 = .agg #[.int .i64 op, .int .i64 (dn : Int), .int .i64 s, .int .i64 t, .int .i64 u, .int .i64 a', .int .u32 k, .int .i64 pl] := hd 3 (by decide)
        have HS := Lib.hid (HPB.out W)
        clear hd
        go_simp
        refine HS.out.mono ?_
        rintro e z ⟨he, hz⟩
        exact ⟨_, he, rfl, hz⟩
      · intro vs W hW hd
        refine leaves_free rfl ?_
        have e1 : vs 1 = .agg #[.int .u32 r0, .int .u32 r1, .int .u32 r2, .int .u32 r3, .int .u32 r4, .int .u32 r5, .int .u32 r6, .int .u32 r7] := hd 1 (by decide)
        have e4 : vs 4 = .int .i64 PL := hd 4 (by decide)
        go_simp
        exact ⟨rfl, Below.refl _ _⟩
      · intro vs W hW hd
        refine leaves_free rfl ?_
        go_simp
        exact ⟨⟨W.heap.size, rfl, hW.size, Cb.made W [0, 0, 0, 0, 0, 0, 0, 0] 0⟩, (Below.refl _ _).alloc (Nat.le_refl _) _⟩
    case gdone =>
      intro vs W hW hf
      have f0 : vs 0 = .pointer (some ⟨w.heap.size, 0, none⟩) := hf 0 (by decide)
      have f1 : vs 1 = .agg #[.int .u32 r0, .int .u32 r1, .int .u32 r2, .int .u32 r3, .int .u32 r4, .int .u32 r5, .int .u32 r6, .int .u32 r7] := hf 1 (by decide)
      have f2 : vs 2 = .agg #[.int .u32 r0, .int .u32 r1, .int .u32 r2, .int .u32 r3, .int .u32 r4, .int .u32 r5, .int .u32 r6, .int .u32 r7, .int .i64 pc] := hf 2 (by decide)
      have f3 : vs 3 = .agg #[.int .i64 op, .int .i64 (dn : Int), .int .i64 s, .int .i64 t, .int .i64 u, .int .i64 a', .int .u32 k, .int .i64 pl] := hf 3 (by decide)
      have f4 : vs 4 = .int .i64 PL := hf 4 (by decide)
      have f5 : vs 5 = .agg #[.int .u32 r0, .int .u32 r1, .int .u32 r2, .int .u32 r3, .int .u32 r4, .int .u32 r5, .int .u32 r6, .int .u32 r7, .int .i64 PL] := hf 5 (by decide)
      simp only [f0, f1, f2, f3, f4, f5, List.drop_succ_cons, List.drop_zero]
      obtain ⟨gb, f6, hgb, qb⟩ : NewC y.heap.size (vs 6) W := hf 6 (by decide)
      simp only [f6]
      clear hf f6 f0 f1 f2 f3 f4 f5
      have zf := Bk.free qb
      obtain ⟨z0, z1, z2, z3, z4, z5, z6, z7, z8⟩ := qb.cells
      have n0 : w.heap.size ≠ gb := by omega
      have n1 : w.heap.size + 1 ≠ gb := by omega
      have n2 : w.heap.size + 1 + 1 ≠ gb := by omega
      have k0 : Cb (put9 W gb (.int .u32 r0) (.int .u32 r1) (.int .u32 r2) (.int .u32 r3) (.int .u32 r4) (.int .u32 r5) (.int .u32 r6) (.int .u32 r7) (.int .i64 PL)) _ _ _ := put9_off (q0.below hW) n0 (.int .u32 r0) (.int .u32 r1) (.int .u32 r2) (.int .u32 r3) (.int .u32 r4) (.int .u32 r5) (.int .u32 r6) (.int .u32 r7) (.int .i64 PL)
      have k1 : Ib (put9 W gb (.int .u32 r0) (.int .u32 r1) (.int .u32 r2) (.int .u32 r3) (.int .u32 r4) (.int .u32 r5) (.int .u32 r6) (.int .u32 r7) (.int .i64 PL)) _ _ := put9_off (q1.below hW) n1 (.int .u32 r0) (.int .u32 r1) (.int .u32 r2) (.int .u32 r3) (.int .u32 r4) (.int .u32 r5) (.int .u32 r6) (.int .u32 r7) (.int .i64 PL)
      have k2 : Cb (put9 W gb (.int .u32 r0) (.int .u32 r1) (.int .u32 r2) (.int .u32 r3) (.int .u32 r4) (.int .u32 r5) (.int .u32 r6) (.int .u32 r7) (.int .i64 PL)) _ _ _ := put9_off (q2.below hW) n2 (.int .u32 r0) (.int .u32 r1) (.int .u32 r2) (.int .u32 r3) (.int .u32 r4) (.int .u32 r5) (.int .u32 r6) (.int .u32 r7) (.int .i64 PL)
      have kb : Cb (put9 W gb (.int .u32 r0) (.int .u32 r1) (.int .u32 r2) (.int .u32 r3) (.int .u32 r4) (.int .u32 r5) (.int .u32 r6) (.int .u32 r7) (.int .i64 PL)) gb [r0, r1, r2, r3, r4, r5, r6, r7] PL := put9_bk qb (.int .u32 r0) (.int .u32 r1) (.int .u32 r2) (.int .u32 r3) (.int .u32 r4) (.int .u32 r5) (.int .u32 r6) (.int .u32 r7) (.int .i64 PL)
      have bb := put9_below (b0.trans (hW.mono b0.size)) (show w.heap.size ≤ gb by omega) (.int .u32 r0) (.int .u32 r1) (.int .u32 r2) (.int .u32 r3) (.int .u32 r4) (.int .u32 r5) (.int .u32 r6) (.int .u32 r7) (.int .i64 PL)
      clear q0 q1 q2 b0 hW HC HPB qb
      go_upto_region 4 with fail
      clear zf z0 z1 z2 z3 z4 z5 z6 z7 z8
      generalize hv : (((((((((W.setCell ⟨gb, 0, none⟩ (.int .u32 r0)).setCell ⟨gb, 1, none⟩ (.int .u32 r1)).setCell ⟨gb, 2, none⟩ (.int .u32 r2)).setCell ⟨gb, 3, none⟩ (.int .u32 r3)).setCell ⟨gb, 4, none⟩ (.int .u32 r4)).setCell ⟨gb, 5, none⟩ (.int .u32 r5)).setCell ⟨gb, 6, none⟩ (.int .u32 r6)).setCell ⟨gb, 7, none⟩ (.int .u32 r7)).setCell ⟨gb, 8, none⟩ (.int .i64 PL)) = y2
      replace hv : put9 W gb (.int .u32 r0) (.int .u32 r1) (.int .u32 r2) (.int .u32 r3) (.int .u32 r4) (.int .u32 r5) (.int .u32 r6) (.int .u32 r7) (.int .i64 PL) = y2 := hv
      rw [hv] at k0 k1 k2 kb bb
      clear hv
      obtain ⟨c0, c1, c2, c3, c4, c5, c6, c7, c8⟩ := k0.cells
      obtain ⟨e0, e1, e2, e3, e4, e5, e6, e7⟩ := k1.cells
      simp only at e0 e1 e2 e3 e4 e5 e6 e7
      go_wp2_with fail
      refine (HVL.out _).mono ?_
      rintro e z ⟨rfl, hz⟩
      clear c0 c1 c2 c3 c4 c5 c6 c7 c8 e0 e1 e2 e3 e4 e5 e6 e7
      replace k1 := k1.below hz
      replace k2 := k2.below hz
      replace kb := kb.below hz
      replace bb := bb.trans (hz.mono bb.size)
      clear hz k0 HVL
      obtain ⟨e0, e1, e2, e3, e4, e5, e6, e7⟩ := k1.cells
      simp only at e0 e1 e2 e3 e4 e5 e6 e7
      have zf := Bk.free k2
      obtain ⟨z0, z1, z2, z3, z4, z5, z6, z7, z8⟩ := k2.cells
      cases VO with
      | none =>
        simp only [Option.getD_none, Option.isSome_none]
        obtain ⟨c0, c1, c2, c3, c4, c5, c6, c7, c8⟩ := kb.cells
        go_upto_region 7 with fail
        have h9 := put9_bk k2 (.int .u32 r0) (.int .u32 r1) (.int .u32 r2) (.int .u32 r3) (.int .u32 r4) (.int .u32 r5) (.int .u32 r6) (.int .u32 r7) (.int .i64 PL)
        have b9 := put9_below bb (show w.heap.size ≤ w.heap.size + 1 + 1 by omega) (.int .u32 r0) (.int .u32 r1) (.int .u32 r2) (.int .u32 r3) (.int .u32 r4) (.int .u32 r5) (.int .u32 r6) (.int .u32 r7) (.int .i64 PL)
        go_wp
        generalize hv9 : (((((((((z.setCell ⟨w.heap.size + 1 + 1, 0, none⟩ (.int .u32 r0)).setCell ⟨w.heap.size + 1 + 1, 1, none⟩ (.int .u32 r1)).setCell ⟨w.heap.size + 1 + 1, 2, none⟩ (.int .u32 r2)).setCell ⟨w.heap.size + 1 + 1, 3, none⟩ (.int .u32 r3)).setCell ⟨w.heap.size + 1 + 1, 4, none⟩ (.int .u32 r4)).setCell ⟨w.heap.size + 1 + 1, 5, none⟩ (.int .u32 r5)).setCell ⟨w.heap.size + 1 + 1, 6, none⟩ (.int .u32 r6)).setCell ⟨w.heap.size + 1 + 1, 7, none⟩ (.int .u32 r7)).setCell ⟨w.heap.size + 1 + 1, 8, none⟩ (.int .i64 PL)) = v9
        replace hv9 : put9 z (w.heap.size + 1 + 1) (.int .u32 r0) (.int .u32 r1) (.int .u32 r2) (.int .u32 r3) (.int .u32 r4) (.int .u32 r5) (.int .u32 r6) (.int .u32 r7) (.int .i64 PL) = v9 := hv9
        rw [hv9] at h9 b9
        obtain ⟨y0, y1, y2, y3, y4, y5, y6, y7, y8⟩ := Cb.cells (r0 := r0) (r1 := r1) (r2 := r2) (r3 := r3) (r4 := r4) (r5 := r5) (r6 := r6) (r7 := r7) (pc := PL) h9
        exact bodyPost_ret (v := .agg #[.int .u32 r0, .int .u32 r1, .int .u32 r2, .int .u32 r3, .int .u32 r4, .int .u32 r5, .int .u32 r6, .int .u32 r7, .int .i64 PL]) (by simp [results, Try.results44, go_sem, y0, y1, y2, y3, y4, y5, y6, y7, y8]) rfl ⟨by rw [HO.out, HP.out]; rfl, b9⟩
      | some V =>
        simp only [Option.getD_some, Option.isSome_some]
        have cD := kb.at_ rfl hd8
        have cf := Bk.free kb
        have kb2 := kb.set rfl hd8 V
        have k3 := k2.off (p := ⟨gb, dn, none⟩) n2 (.int .u32 V)
        have b3 := bb.setCell (p := ⟨gb, dn, none⟩) (by show w.heap.size ≤ gb; omega) (.int .u32 V)
        obtain ⟨s0, s1, s2, s3, s4, s5, s6, s7, hs⟩ := eight_cons (xs := [r0, r1, r2, r3, r4, r5, r6, r7].set dn V) (by simp)
        rw [hs] at kb2
        have HO2 : Hid (XS = [s0, s1, s2, s3, s4, s5, s6, s7]) := Lib.hid (by rw [HO.out]; exact hs)
        clear HO hs k2 kb bb z0 z1 z2 z3 z4 z5 z6 z7 z8 zf
        go_upto_region 6 with fail
        go_wp2_with fail
        refine (HR.out _).mono ?_
        rintro e z' ⟨rfl, rfl⟩
        go_upto_region 7 with fail
        clear e0 e1 e2 e3 e4 e5 e6 e7 cD cf
        generalize z.setCell ⟨gb, dn, none⟩ (.int .u32 V) = z2 at *
        have zf := Bk.free k3
        obtain ⟨z0, z1, z2', z3, z4, z5, z6, z7, z8⟩ := Cb.cells k3
        obtain ⟨c0, c1, c2, c3, c4, c5, c6, c7, c8⟩ := kb2.cells
        have h9 := put9_bk k3 (.int .u32 s0) (.int .u32 s1) (.int .u32 s2) (.int .u32 s3) (.int .u32 s4) (.int .u32 s5) (.int .u32 s6) (.int .u32 s7) (.int .i64 PL)
        have b9 := put9_below b3 (show w.heap.size ≤ w.heap.size + 1 + 1 by omega) (.int .u32 s0) (.int .u32 s1) (.int .u32 s2) (.int .u32 s3) (.int .u32 s4) (.int .u32 s5) (.int .u32 s6) (.int .u32 s7) (.int .i64 PL)
        go_wp
        generalize hv9 : (((((((((z2.setCell ⟨w.heap.size + 1 + 1, 0, none⟩ (.int .u32 s0)).setCell ⟨w.heap.size + 1 + 1, 1, none⟩ (.int .u32 s1)).setCell ⟨w.heap.size + 1 + 1, 2, none⟩ (.int .u32 s2)).setCell ⟨w.heap.size + 1 + 1, 3, none⟩ (.int .u32 s3)).setCell ⟨w.heap.size + 1 + 1, 4, none⟩ (.int .u32 s4)).setCell ⟨w.heap.size + 1 + 1, 5, none⟩ (.int .u32 s5)).setCell ⟨w.heap.size + 1 + 1, 6, none⟩ (.int .u32 s6)).setCell ⟨w.heap.size + 1 + 1, 7, none⟩ (.int .u32 s7)).setCell ⟨w.heap.size + 1 + 1, 8, none⟩ (.int .i64 PL)) = v9
        replace hv9 : put9 z2 (w.heap.size + 1 + 1) (.int .u32 s0) (.int .u32 s1) (.int .u32 s2) (.int .u32 s3) (.int .u32 s4) (.int .u32 s5) (.int .u32 s6) (.int .u32 s7) (.int .i64 PL) = v9 := hv9
        rw [hv9] at h9 b9
        obtain ⟨y0, y1, y2, y3, y4, y5, y6, y7, y8⟩ := Cb.cells (r0 := s0) (r1 := s1) (r2 := s2) (r3 := s3) (r4 := s4) (r5 := s5) (r6 := s6) (r7 := s7) (pc := PL) h9
        exact bodyPost_ret (v := .agg #[.int .u32 s0, .int .u32 s1, .int .u32 s2, .int .u32 s3, .int .u32 s4, .int .u32 s5, .int .u32 s6, .int .u32 s7, .int .i64 PL]) (by simp [results, Try.results44, go_sem, y0, y1, y2, y3, y4, y5, y6, y7, y8]) rfl ⟨by rw [HO2.out, HP.out]; rfl, b9⟩
end Go.Proofs.Ytpinpipjlongaaa
