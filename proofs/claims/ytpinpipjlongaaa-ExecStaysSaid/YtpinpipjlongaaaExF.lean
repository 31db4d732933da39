/- Layer 10 (exec): Begin. -/
import Derived.Test.YtpinpipjlongaaaExE
namespace Go.Proofs.Ytpinpipjlongaaa
set_option maxRecDepth 100000
open Go.ChangeShapes Go.WideShapes Go.ChangeAt Go.RowKit
set_option linter.unusedVariables false

/-- What Begin or Step returns: what it comes to, and what the lock is then. -/
def Came (w : World) (X : XP) (k : Lk) (r : Mc × Ot) (e : Ending) (w' : World) : Prop :=
  ∃ v M', e = .returned (otV v r.2) ∧ Lst .i64 3 w' v r.2.ms ∧ Ex w' { X with M := M' } k r.1 ∧ XStays w k.n X w' { X with M := M' }
/-- A list's row doesn't lie where something of another type lies. -/
theorem lst_within {W W' : World} {m : Value} {ms : List Int} {S : Nat → Prop} (hl : Lst .i64 3 W m ms) (hW : Within W W' S) (hS : ∀ b, S b → ∃ t cs, Bk W b t cs ∧ t ≠ 3) : Lst .i64 3 W' m ms :=
  hl.within hW fun g e hg => by
    obtain ⟨cs, hcs⟩ := hl.bk e
    obtain ⟨t, cs', h1, h2⟩ := hS g hg
    exact Bk.unlike hcs h1 (fun e => h2 e.symm) rfl

section
variable {w w' : World} {X : XP} {k : Lk} {m : Mc}
set_option maxHeartbeats 4000000 in
theorem xBegin (h : Ex w X k m) (t : Nat) (ht : t < k.n) (un : Bool) :
    Calls Try.prog 9 #[.pointer (some ⟨X.x, 0, none⟩), .int .i64 t, .bool un] w (Came w X k (beginM k m t un)) := by
  have hnn := h.lk.n64
  have hl := h.lk.parts.2.1
  have hx := h.mc.cs t ht
  obtain ⟨r0, r1, r2, r3, r4, r5, r6, r7, pc, ec⟩ := h.core_cons ht
  have HB0 := fun (v : Value) W hW => cBegin ⟨k.l, k.lo, k.un⟩ v (m.cs t).xs (m.cs t).pc t un W hW hl h.lk.ok hx (by omega) (by omega)
  have hE := runL_eight h.lk.ok (self := (t : Int)) (by omega) (by omega) 256 (m.cs t).xs (if un then k.un else k.lo) [] hx
  obtain ⟨RR, hRR⟩ : ∃ R, R = runL (t : Int) k.l 256 (m.cs t).xs (if un then k.un else k.lo) [] := ⟨_, rfl⟩
  rw [← hRR] at hE
  have HR : Hid (beginM k m t un = ({ m with cs := updN m.cs t ⟨RR.xs, RR.pc⟩ }, ⟨RR.ms, RR.done, -1, false, false, RR.e⟩)) := Lib.hid (by unfold beginM runM; simp only [hRR])
  have HX := Lib.hid h
  obtain ⟨sxs, PC, ms, D, E⟩ := RR
  simp only at hE HR
  obtain ⟨s0, s1, s2, s3, s4, s5, s6, s7, rfl⟩ := eight_cons hE.1
  have HE8 := Lib.hid hE
  have HB : Hid (∀ W, Ex W X k m → Calls Try.prog 22 #[.agg #[.int .u32 r0, .int .u32 r1, .int .u32 r2, .int .u32 r3, .int .u32 r4, .int .u32 r5, .int .u32 r6, .int .u32 r7, .int .i64 pc], .agg #[X.cv, .int .i64 k.lo, .int .i64 k.un], .int .i64 t, .bool un] W fun e w' => ∃ m5, e = .returned (.tuple #[.agg #[.int .u32 s0, .int .u32 s1, .int .u32 s2, .int .u32 s3, .int .u32 s4, .int .u32 s5, .int .u32 s6, .int .u32 s7, .int .i64 PC], m5, .int .i64 D, .int .i64 E]) ∧ Lst .i64 3 w' m5 ms ∧ Below W.heap.size W w') := Lib.hid fun W hW => by
    have h1 := HB0 _ W hW.pv.1
    rw [ec] at h1 hRR
    simp only at h1
    rw [← hRR] at h1
    exact h1.mono fun e w' ⟨m5, q1, q2, q3⟩ => ⟨m5, q1, q2, q3⟩
  clear HB0 hE hRR hx
  rw [HR.out]
  clear HR
  have q0 := Bk.made w 46 #[.slice none 0 0, .int .i64 0, .int .i64 0, .bool false, .bool false, .int .i64 0]
  have b0 : Below w.heap.size w (w.alloc (.cells #[.slice none 0 0, .int .i64 0, .int .i64 0, .bool false, .bool false, .int .i64 0] 46)) := (Below.refl _ _).alloc (Nat.le_refl _) _
  go_enter Try.func9, Try.ntmps9
  go_upto_region 1 with fail
  generalize w.alloc (.cells #[.slice none 0 0, .int .i64 0, .int .i64 0, .bool false, .bool false, .int .i64 0] 46) = y at *
  have h2 := h.below b0
  go_wp2_with fail
  refine (xThread h2 t ht).mono ?_
  rintro e w' ⟨rfl, rfl⟩
  clear h
  go_upto_region 3 with fail
  refine wp_region_put 19 20 52 #[.int .u32 0, .int .u32 0, .int .u32 0, .int .u32 0, .int .u32 0, .int .u32 0, .int .u32 0, .int .u32 0, .int .i64 0] (fun W b => put9 W b (.int .u32 s0) (.int .u32 s1) (.int .u32 s2) (.int .u32 s3) (.int .u32 s4) (.int .u32 s5) (.int .u32 s6) (.int .u32 s7) (.int .i64 PC)) (fun W b => Cb W b [s0, s1, s2, s3, s4, s5, s6, s7] PC) (fun vs => { tmps := #[.pointer (some ⟨X.x, 0, none⟩), .int .i64 (t : Int), .bool un, undef, undef, undef, .pointer (some ⟨w.heap.size, 0, none⟩), vs 19, vs 21, vs 22, vs 23, .pointer (some ⟨X.x, 0, none⟩), .int .i64 (t : Int), .bool true, .bool false, undef, vs 14, vs 0, vs 1, vs 2, vs 3, vs 4, vs 5, vs 6, vs 7, vs 8, vs 9, vs 10, vs 11, vs 12, vs 13, vs 15, vs 16, vs 17, vs 18, undef, undef, undef, undef, undef, undef, undef, undef, undef, undef, undef], defers := [] }) (mixT [(13, (TupR (.agg #[.int .u32 s0, .int .u32 s1, .int .u32 s2, .int .u32 s3, .int .u32 s4, .int .u32 s5, .int .u32 s6, .int .u32 s7, .int .i64 PC]) ms D E)), (14, (TupR (.agg #[.int .u32 s0, .int .u32 s1, .int .u32 s2, .int .u32 s3, .int .u32 s4, .int .u32 s5, .int .u32 s6, .int .u32 s7, .int .i64 PC]) ms D E)), (16, (fun v W => Lst .i64 3 W v ms)), (21, (fun v W => Lst .i64 3 W v ms))] [.pointer (some ⟨X.x, 0, none⟩), .pointer (some ⟨X.x, 0, none⟩), .pointer (some ⟨X.x, 5, none⟩), .slice (some ⟨X.kb, 0, none⟩) k.n k.n, .int .i64 (t : Int), .pointer (some ⟨X.kb, t * 9, none⟩), .agg #[.int .u32 r0, .int .u32 r1, .int .u32 r2, .int .u32 r3, .int .u32 r4, .int .u32 r5, .int .u32 r6, .int .u32 r7, .int .i64 pc], .pointer (some ⟨X.x, 0, none⟩), .pointer (some ⟨X.x, 0, none⟩), .pointer (some ⟨X.x, 0, none⟩), .agg #[X.cv, .int .i64 k.lo, .int .i64 k.un], .int .i64 (t : Int), .bool un, undef, undef, .agg #[.int .u32 s0, .int .u32 s1, .int .u32 s2, .int .u32 s3, .int .u32 s4, .int .u32 s5, .int .u32 s6, .int .u32 s7, .int .i64 PC], undef, .int .i64 D, .int .i64 E, undef, undef, undef, .int .i64 D, .int .i64 E]) ?ghm ?ghr ?ghns ?ghlen ?glit ?gst ?gst2 ?gd1 ?gbel ?gdn ?gnew ?gsto ?gops ?gdone
  case ghm => kernel_rfl
  case ghr => kernel_rfl
  case ghns => kernel_rfl
  case ghlen => rfl
  case glit => intro vs; rfl
  case gst => exact mixT_stable (by
    intro p hp
    simp only [List.mem_cons, List.not_mem_nil, or_false] at hp
    rcases hp with rfl | rfl | rfl | rfl
    · exact fun v W W2 h hb => TupR.below h hb
    · exact fun v W W2 h hb => TupR.below h hb
    · exact fun v W W2 h hb => lst_below h hb
    · exact fun v W W2 h hb => lst_below h hb)
  case gst2 =>
    have hk := mixT_keep (R := fun W W2 => ∃ b, Bk W b 52 #[.int .u32 0, .int .u32 0, .int .u32 0, .int .u32 0, .int .u32 0, .int .u32 0, .int .u32 0, .int .u32 0, .int .i64 0] ∧ W2 = put9 W b (.int .u32 s0) (.int .u32 s1) (.int .u32 s2) (.int .u32 s3) (.int .u32 s4) (.int .u32 s5) (.int .u32 s6) (.int .u32 s7) (.int .i64 PC)) (ps := [(13, (TupR (.agg #[.int .u32 s0, .int .u32 s1, .int .u32 s2, .int .u32 s3, .int .u32 s4, .int .u32 s5, .int .u32 s6, .int .u32 s7, .int .i64 PC]) ms D E)), (14, (TupR (.agg #[.int .u32 s0, .int .u32 s1, .int .u32 s2, .int .u32 s3, .int .u32 s4, .int .u32 s5, .int .u32 s6, .int .u32 s7, .int .i64 PC]) ms D E)), (16, (fun v W => Lst .i64 3 W v ms)), (21, (fun v W => Lst .i64 3 W v ms))]) (l := [.pointer (some ⟨X.x, 0, none⟩), .pointer (some ⟨X.x, 0, none⟩), .pointer (some ⟨X.x, 5, none⟩), .slice (some ⟨X.kb, 0, none⟩) k.n k.n, .int .i64 (t : Int), .pointer (some ⟨X.kb, t * 9, none⟩), .agg #[.int .u32 r0, .int .u32 r1, .int .u32 r2, .int .u32 r3, .int .u32 r4, .int .u32 r5, .int .u32 r6, .int .u32 r7, .int .i64 pc], .pointer (some ⟨X.x, 0, none⟩), .pointer (some ⟨X.x, 0, none⟩), .pointer (some ⟨X.x, 0, none⟩), .agg #[X.cv, .int .i64 k.lo, .int .i64 k.un], .int .i64 (t : Int), .bool un, undef, undef, .agg #[.int .u32 s0, .int .u32 s1, .int .u32 s2, .int .u32 s3, .int .u32 s4, .int .u32 s5, .int .u32 s6, .int .u32 s7, .int .i64 PC], undef, .int .i64 D, .int .i64 E, undef, undef, undef, .int .i64 D, .int .i64 E]) (by
      intro p hp
      simp only [List.mem_cons, List.not_mem_nil, or_false] at hp
      rcases hp with rfl | rfl | rfl | rfl
      · rintro v W W2 ⟨m5, e5, h5⟩ ⟨b, hk, rfl⟩; exact ⟨m5, e5, lst_put9 h5 hk (by decide) (.int .u32 s0) (.int .u32 s1) (.int .u32 s2) (.int .u32 s3) (.int .u32 s4) (.int .u32 s5) (.int .u32 s6) (.int .u32 s7) (.int .i64 PC)⟩
      · rintro v W W2 ⟨m5, e5, h5⟩ ⟨b, hk, rfl⟩; exact ⟨m5, e5, lst_put9 h5 hk (by decide) (.int .u32 s0) (.int .u32 s1) (.int .u32 s2) (.int .u32 s3) (.int .u32 s4) (.int .u32 s5) (.int .u32 s6) (.int .u32 s7) (.int .i64 PC)⟩
      · rintro v W W2 h ⟨b, hk, rfl⟩; exact lst_put9 h hk (by decide) (.int .u32 s0) (.int .u32 s1) (.int .u32 s2) (.int .u32 s3) (.int .u32 s4) (.int .u32 s5) (.int .u32 s6) (.int .u32 s7) (.int .i64 PC)
      · rintro v W W2 h ⟨b, hk, rfl⟩; exact lst_put9 h hk (by decide) (.int .u32 s0) (.int .u32 s1) (.int .u32 s2) (.int .u32 s3) (.int .u32 s4) (.int .u32 s5) (.int .u32 s6) (.int .u32 s7) (.int .i64 PC))
    exact fun i v W b h hb => hk i v W _ h ⟨b, hb, rfl⟩
  case gd1 => exact fun W W2 b h hb => Cb.below h hb
  case gbel => exact fun W b hb h => put9_below h hb (.int .u32 s0) (.int .u32 s1) (.int .u32 s2) (.int .u32 s3) (.int .u32 s4) (.int .u32 s5) (.int .u32 s6) (.int .u32 s7) (.int .i64 PC)
  case gdn => exact fun W b h => put9_bk h (.int .u32 s0) (.int .u32 s1) (.int .u32 s2) (.int .u32 s3) (.int .u32 s4) (.int .u32 s5) (.int .u32 s6) (.int .u32 s7) (.int .i64 PC)
  case gnew =>
    intro o ho vs W hW
    injection ho with ho
    subst ho
    refine leaves_free rfl ?_
    go_simp
    exact ⟨⟨W.heap.size, rfl, hW.size, Cb.made W [0, 0, 0, 0, 0, 0, 0, 0] 0⟩, (Below.refl _ _).alloc (Nat.le_refl _) _⟩
  case gsto =>
    intro o ho vs W b hW hd hb hk
    injection ho with ho
    subst ho
    have ev : vs 15 = .agg #[.int .u32 s0, .int .u32 s1, .int .u32 s2, .int .u32 s3, .int .u32 s4, .int .u32 s5, .int .u32 s6, .int .u32 s7, .int .i64 PC] := hd 15 (by decide) rfl
    have zf := Bk.free hk
    obtain ⟨z0, z1, z2, z3, z4, z5, z6, z7, z8⟩ := Cb.cells hk
    refine leavesIf_free rfl ?_
    clear hd
    go_simp
    rfl
  case gops =>
    refine ⟨?_, ?_, ?_, ?_, ?_, ?_, ?_, ?_, ?_, ?_, ?_, ?_, ?_, ?_, ?_, ?_, ?_, ?_, ?_, ?_, ?_, ?_, ?_, ?_, trivial⟩
    · intro _ vs W hW hd
      refine leaves_free rfl ?_
      go_simp
      exact ⟨rfl, Below.refl _ _⟩
    · intro _ vs W hW hd
      refine leaves_free rfl ?_
      have e0 : vs 0 = .pointer (some ⟨X.x, 0, none⟩) := hd 0 (by decide) rfl
      go_simp
      exact ⟨rfl, Below.refl _ _⟩
    · intro _ vs W hW hd
      refine leaves_free rfl ?_
      have e1 : vs 1 = .pointer (some ⟨X.x, 0, none⟩) := hd 1 (by decide) rfl
      go_simp
      exact ⟨rfl, Below.refl _ _⟩
    · intro _ vs W hW hd
      refine leaves_free rfl ?_
      have e2 : vs 2 = .pointer (some ⟨X.x, 5, none⟩) := hd 2 (by decide) rfl
      have hq := h2.below hW; have c0x := hq.c0; have c1x := hq.c1; have c2x := hq.c2; have c5x := hq.c5; obtain ⟨c0, c1, c2, c3, c4, c5, c6, c7, c8⟩ := hq.core ht ec; clear hq
      go_simp
      exact ⟨rfl, Below.refl _ _⟩
    · intro _ vs W hW hd
      refine leaves_free rfl ?_
      go_simp
      exact ⟨rfl, Below.refl _ _⟩
    · intro _ vs W hW hd
      refine leaves_free rfl ?_
      have e3 : vs 3 = .slice (some ⟨X.kb, 0, none⟩) k.n k.n := hd 3 (by decide) rfl
      have e4 : vs 4 = .int .i64 (t : Int) := hd 4 (by decide) rfl
      go_simp
      exact ⟨rfl, Below.refl _ _⟩
    · intro _ vs W hW hd
      refine leaves_free rfl ?_
      have e5 : vs 5 = .pointer (some ⟨X.kb, t * 9, none⟩) := hd 5 (by decide) rfl
      have hq := h2.below hW; have c0x := hq.c0; have c1x := hq.c1; have c2x := hq.c2; have c5x := hq.c5; obtain ⟨c0, c1, c2, c3, c4, c5, c6, c7, c8⟩ := hq.core ht ec; clear hq
      go_simp
      exact ⟨rfl, Below.refl _ _⟩
    · intro _ vs W hW hd
      refine leaves_free rfl ?_
      go_simp
      exact ⟨rfl, Below.refl _ _⟩
    · intro _ vs W hW hd
      refine leaves_free rfl ?_
      have e7 : vs 7 = .pointer (some ⟨X.x, 0, none⟩) := hd 7 (by decide) rfl
      go_simp
      exact ⟨rfl, Below.refl _ _⟩
    · intro _ vs W hW hd
      refine leaves_free rfl ?_
      have e8 : vs 8 = .pointer (some ⟨X.x, 0, none⟩) := hd 8 (by decide) rfl
      go_simp
      exact ⟨rfl, Below.refl _ _⟩
    · intro _ vs W hW hd
      refine leaves_free rfl ?_
      have e9 : vs 9 = .pointer (some ⟨X.x, 0, none⟩) := hd 9 (by decide) rfl
      have hq := h2.below hW; have c0x := hq.c0; have c1x := hq.c1; have c2x := hq.c2; have c5x := hq.c5; obtain ⟨c0, c1, c2, c3, c4, c5, c6, c7, c8⟩ := hq.core ht ec; clear hq
      go_simp
      exact ⟨rfl, Below.refl _ _⟩
    · intro _ vs W hW hd
      refine leaves_free rfl ?_
      go_simp
      exact ⟨rfl, Below.refl _ _⟩
    · intro _ vs W hW hd
      refine leaves_free rfl ?_
      go_simp
      exact ⟨rfl, Below.refl _ _⟩
    · intro _ vs W hW hd
      refine leaves_free rfl ?_
      have e6 : vs 6 = .agg #[.int .u32 r0, .int .u32 r1, .int .u32 r2, .int .u32 r3, .int .u32 r4, .int .u32 r5, .int .u32 r6, .int .u32 r7, .int .i64 pc] := hd 6 (by decide) rfl
      have e10 : vs 10 = .agg #[X.cv, .int .i64 k.lo, .int .i64 k.un] := hd 10 (by decide) rfl
      have e11 : vs 11 = .int .i64 (t : Int) := hd 11 (by decide) rfl
      have e12 : vs 12 = .bool un := hd 12 (by decide) rfl
      have HS := Lib.hid (HB.out W (h2.below hW))
      clear hd
      go_simp
      refine HS.out.mono ?_
      rintro e z ⟨m5, he, hm5, hz⟩
      exact ⟨_, he, ⟨m5, rfl, hm5⟩, hz⟩
    · intro _ vs W hW hd
      refine leaves_free rfl ?_
      obtain ⟨m5, e13, hm5⟩ : TupR (.agg #[.int .u32 s0, .int .u32 s1, .int .u32 s2, .int .u32 s3, .int .u32 s4, .int .u32 s5, .int .u32 s6, .int .u32 s7, .int .i64 PC]) ms D E (vs 13) W := hd 13 (by decide) rfl
      clear hd
      go_simp
      exact ⟨⟨m5, rfl, hm5⟩, Below.refl _ _⟩
    · intro _ vs W hW hd
      refine leaves_free rfl ?_
      obtain ⟨m5, e14, hm5⟩ : TupR (.agg #[.int .u32 s0, .int .u32 s1, .int .u32 s2, .int .u32 s3, .int .u32 s4, .int .u32 s5, .int .u32 s6, .int .u32 s7, .int .i64 PC]) ms D E (vs 14) W := hd 14 (by decide) rfl
      clear hd
      go_simp
      exact ⟨rfl, Below.refl _ _⟩
    · intro _ vs W hW hd
      refine leaves_free rfl ?_
      obtain ⟨m5, e14, hm5⟩ : TupR (.agg #[.int .u32 s0, .int .u32 s1, .int .u32 s2, .int .u32 s3, .int .u32 s4, .int .u32 s5, .int .u32 s6, .int .u32 s7, .int .i64 PC]) ms D E (vs 14) W := hd 14 (by decide) rfl
      clear hd
      go_simp
      exact ⟨hm5, Below.refl _ _⟩
    · intro _ vs W hW hd
      refine leaves_free rfl ?_
      obtain ⟨m5, e14, hm5⟩ : TupR (.agg #[.int .u32 s0, .int .u32 s1, .int .u32 s2, .int .u32 s3, .int .u32 s4, .int .u32 s5, .int .u32 s6, .int .u32 s7, .int .i64 PC]) ms D E (vs 14) W := hd 14 (by decide) rfl
      clear hd
      go_simp
      exact ⟨rfl, Below.refl _ _⟩
    · intro _ vs W hW hd
      refine leaves_free rfl ?_
      obtain ⟨m5, e14, hm5⟩ : TupR (.agg #[.int .u32 s0, .int .u32 s1, .int .u32 s2, .int .u32 s3, .int .u32 s4, .int .u32 s5, .int .u32 s6, .int .u32 s7, .int .i64 PC]) ms D E (vs 14) W := hd 14 (by decide) rfl
      clear hd
      go_simp
      exact ⟨rfl, Below.refl _ _⟩
    · exact fun h => absurd h (by decide)
    · exact fun h => absurd h (by decide)
    · intro _ vs W hW hd
      refine leaves_free rfl ?_
      have h8 : Lst .i64 3 W (vs 16) ms := hd 16 (by decide) rfl
      clear hd
      go_simp
      exact ⟨h8, Below.refl _ _⟩
    · intro _ vs W hW hd
      refine leaves_free rfl ?_
      have e17 : vs 17 = .int .i64 D := hd 17 (by decide) rfl
      go_simp
      exact ⟨rfl, Below.refl _ _⟩
    · intro _ vs W hW hd
      refine leaves_free rfl ?_
      have e18 : vs 18 = .int .i64 E := hd 18 (by decide) rfl
      go_simp
      exact ⟨rfl, Below.refl _ _⟩
  case gdone =>
    intro vs W b hW hf hgv hgb pb
    have f0 : vs 0 = .pointer (some ⟨X.x, 0, none⟩) := hf 0 (by decide) rfl
    have f1 : vs 1 = .pointer (some ⟨X.x, 0, none⟩) := hf 1 (by decide) rfl
    have f2 : vs 2 = .pointer (some ⟨X.x, 5, none⟩) := hf 2 (by decide) rfl
    have f3 : vs 3 = .slice (some ⟨X.kb, 0, none⟩) k.n k.n := hf 3 (by decide) rfl
    have f4 : vs 4 = .int .i64 (t : Int) := hf 4 (by decide) rfl
    have f5 : vs 5 = .pointer (some ⟨X.kb, t * 9, none⟩) := hf 5 (by decide) rfl
    have f6 : vs 6 = .agg #[.int .u32 r0, .int .u32 r1, .int .u32 r2, .int .u32 r3, .int .u32 r4, .int .u32 r5, .int .u32 r6, .int .u32 r7, .int .i64 pc] := hf 6 (by decide) rfl
    have f7 : vs 7 = .pointer (some ⟨X.x, 0, none⟩) := hf 7 (by decide) rfl
    have f8 : vs 8 = .pointer (some ⟨X.x, 0, none⟩) := hf 8 (by decide) rfl
    have f9 : vs 9 = .pointer (some ⟨X.x, 0, none⟩) := hf 9 (by decide) rfl
    have f10 : vs 10 = .agg #[X.cv, .int .i64 k.lo, .int .i64 k.un] := hf 10 (by decide) rfl
    have f11 : vs 11 = .int .i64 (t : Int) := hf 11 (by decide) rfl
    have f12 : vs 12 = .bool un := hf 12 (by decide) rfl
    have f15 : vs 15 = .agg #[.int .u32 s0, .int .u32 s1, .int .u32 s2, .int .u32 s3, .int .u32 s4, .int .u32 s5, .int .u32 s6, .int .u32 s7, .int .i64 PC] := hf 15 (by decide) rfl
    have f17 : vs 17 = .int .i64 D := hf 17 (by decide) rfl
    have f18 : vs 18 = .int .i64 E := hf 18 (by decide) rfl
    have f22 : vs 22 = .int .i64 D := hf 22 (by decide) rfl
    have f23 : vs 23 = .int .i64 E := hf 23 (by decide) rfl
    simp only [f0, f1, f2, f3, f4, f5, f6, f7, f8, f9, f10, f11, f12, f15, f17, f18, f22, f23]
    have hm2 : Lst .i64 3 W (vs 21) ms := hf 21 (by decide) rfl
    simp only [hgv]
    clear hf hgv f0 f1 f2 f3 f4 f5 f6 f7 f8 f9 f10 f11 f12 f15 f17 f18 f22 f23
    generalize vs 21 = m2 at *
    generalize vs 13 = w13 at *
    generalize vs 14 = w14 at *
    generalize vs 16 = w16 at *
    have h3 := h2.below hW
    have q3 := (hW.block _ q0.lt).trans q0
    replace b0 := b0.trans (hW.mono b0.size)
    clear h2 q0 hW hgb
    have cx5 := h3.c5
    obtain ⟨c0, c1, c2, c3, c4, c5, c6, c7, c8⟩ := h3.core ht ec
    obtain ⟨d0, d1, d2, d3, d4, d5, d6, d7, d8⟩ := pb.cells
    have zf := h3.free
    have hOwn : ∀ i, X.Own k.n i → i < w.heap.size := fun i hi => HX.out.lt hi
    have hkb : X.kb < w.heap.size := hOwn _ (.inr (.inr (.inl rfl)))
    have hkb2 : w.heap.size ≠ X.kb := by omega
    go_upto_region 4 with fail
    go_region
    have h4 := h3.put ht (c := ⟨[s0, s1, s2, s3, s4, s5, s6, s7], PC⟩) HE8.out
    have hw4 : Within W (putW W X.kb (t * 9) (corC [s0, s1, s2, s3, s4, s5, s6, s7] PC)) (fun i => i = X.kb) := .of_grown (putW_only _ _ _) (by rintro i e; injection e with e; exact .inl e.symm)
    have q4 := Bk.within q3 hw4 hkb2
    have l4 := lst_within hm2 hw4 (by rintro b' rfl; exact ⟨_, _, h3.cores, by decide⟩)
    have st4 := (XStays.of_grown (n := k.n) (X := X) b0).then_ (XStays.put (X := X) (n := k.n) (w := W) (t := t * 9) (vs := corC [s0, s1, s2, s3, s4, s5, s6, s7] PC))
    generalize hv4 : (((((((((W.setCell ⟨X.kb, (t * 9), none⟩ (.int .u32 s0)).setCell ⟨X.kb, (t * 9) + 1, none⟩ (.int .u32 s1)).setCell ⟨X.kb, (t * 9) + 2, none⟩ (.int .u32 s2)).setCell ⟨X.kb, (t * 9) + 3, none⟩ (.int .u32 s3)).setCell ⟨X.kb, (t * 9) + 4, none⟩ (.int .u32 s4)).setCell ⟨X.kb, (t * 9) + 5, none⟩ (.int .u32 s5)).setCell ⟨X.kb, (t * 9) + 6, none⟩ (.int .u32 s6)).setCell ⟨X.kb, (t * 9) + 7, none⟩ (.int .u32 s7)).setCell ⟨X.kb, (t * 9) + 8, none⟩ (.int .i64 PC)) = v4
    replace hv4 : putW W X.kb (t * 9) (corC [s0, s1, s2, s3, s4, s5, s6, s7] PC) = v4 := hv4
    rw [hv4] at h4 hw4 q4 l4 st4
    clear hv4 hw4 h3 q3 hm2 b0 c0 c1 c2 c3 c4 c5 c6 c7 c8 d0 d1 d2 d3 d4 d5 d6 d7 d8 zf pb cx5
    replace h4 := h4.below (Below.refl _ v4).drew
    replace q4 : Bk v4.drew _ _ _ := q4
    replace l4 : Lst .i64 3 v4.drew m2 ms := l4
    replace st4 := st4.grown (Below.refl _ v4).drew
    generalize v4.drew = v5 at *
    obtain ⟨z0, z1, z2, z3, z4, z5⟩ : v5.cell? ⟨w.heap.size, 0, none⟩ = some (.slice none 0 0) ∧ v5.cell? ⟨w.heap.size, 1, none⟩ = some (.int .i64 0) ∧ v5.cell? ⟨w.heap.size, 2, none⟩ = some (.int .i64 0) ∧ v5.cell? ⟨w.heap.size, 3, none⟩ = some (.bool false) ∧ v5.cell? ⟨w.heap.size, 4, none⟩ = some (.bool false) ∧ v5.cell? ⟨w.heap.size, 5, none⟩ = some (.int .i64 0) := ⟨q4.cell 0, q4.cell 1, q4.cell 2, q4.cell 3, q4.cell 4, q4.cell 5⟩
    have zf := Bk.free q4
    have p1 := put6_bk q4 m2 (.int .i64 D) (.int .i64 (-1)) (.bool false) (.bool false) (.int .i64 E)
    have p2 := put6_within (y := v5) (g := w.heap.size) m2 (.int .i64 D) (.int .i64 (-1)) (.bool false) (.bool false) (.int .i64 E)
    obtain ⟨a9, c9, e9, -⟩ := l4.is
    have l6 := lst_within l4 p2 (by rintro b' rfl; exact ⟨_, _, q4, by decide⟩)
    have h6 := h4.far (n := w.heap.size) (b := w.heap.size) (p2.wide (fun i e _ => by omega)) (fun i hi => .inl (hOwn i hi))
    have st6 := st4.far (n := w.heap.size) (b := w.heap.size) (p2.wide (fun i e _ => by omega)) (Nat.le_refl _)
    subst e9
    go_wp2
    generalize hv9 : ((((((v5.setCell ⟨w.heap.size, 0, none⟩ ((.slice a9 ms.length c9))).setCell ⟨w.heap.size, 1, none⟩ (.int .i64 D)).setCell ⟨w.heap.size, 2, none⟩ (.int .i64 (-1))).setCell ⟨w.heap.size, 3, none⟩ (.bool false)).setCell ⟨w.heap.size, 4, none⟩ (.bool false)).setCell ⟨w.heap.size, 5, none⟩ (.int .i64 E)) = v9
    replace hv9 : put6 v5 w.heap.size (.slice a9 ms.length c9) (.int .i64 D) (.int .i64 (-1)) (.bool false) (.bool false) (.int .i64 E) = v9 := hv9
    rw [hv9] at p1 l6 h6 st6
    clear hv9 p2 h4 st4 l4 q4 z0 z1 z2 z3 z4 z5 zf
    obtain ⟨o0, o1, o2, o3, o4, o5⟩ : v9.cell? ⟨w.heap.size, 0, none⟩ = some (.slice a9 ms.length c9) ∧ v9.cell? ⟨w.heap.size, 1, none⟩ = some (.int .i64 D) ∧ v9.cell? ⟨w.heap.size, 2, none⟩ = some (.int .i64 (-1)) ∧ v9.cell? ⟨w.heap.size, 3, none⟩ = some (.bool false) ∧ v9.cell? ⟨w.heap.size, 4, none⟩ = some (.bool false) ∧ v9.cell? ⟨w.heap.size, 5, none⟩ = some (.int .i64 E) := ⟨p1.cell 0, p1.cell 1, p1.cell 2, p1.cell 3, p1.cell 4, p1.cell 5⟩
    exact bodyPost_ret (v := .agg #[(.slice a9 ms.length c9), .int .i64 D, .int .i64 (-1), .bool false, .bool false, .int .i64 E]) (by simp [results, Try.results9, go_sem, o0, o1, o2, o3, o4, o5]) rfl ⟨.slice a9 ms.length c9, X.M, rfl, l6, h6, st6⟩
end
end Go.Proofs.Ytpinpipjlongaaa
