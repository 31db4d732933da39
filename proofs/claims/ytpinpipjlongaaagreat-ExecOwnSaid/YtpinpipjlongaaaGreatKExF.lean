/- ExF, EyP, EyL, EyR, EyB, EyC, EyQ. -/
import Derived.Test.YtpinpipjlongaaaGreatKExE
import Derived.Test.YtpinpipjlongaaaGreatKCoreV
import Derived.Deep.DeepCutAuto
import Derived.BigQuiet
/- Layer 10 (exec): Begin. -/
namespace Go.Proofs.YtpinpipjlongaaaGreat
set_option maxRecDepth 100000
open Go.ChangeShapes Go.WideShapes Go.ChangeAt Go.RowKit
set_option linter.unusedVariables false

/-- What Begin or Step returns: what it comes to, and what the lock is then. -/
def Came (w : World) (X : XP) (k : Lk) (r : Mc × Ot) (e : Ending) (w' : World) : Prop :=
  ∃ v M', e = .returned (otV v r.2) ∧ Lst .i64 3 w' v r.2.ms ∧ Ex w' { X with M := M' } k r.1 ∧ XStays w k.n X w' { X with M := M' }
/-- A list's row doesn't lie where something of another type lies. -/
theorem lst_within {W W' : World} {m : Value} {ms : List Int} {S : Nat → Prop} (hl : Lst .i64 3 W m ms) (hW : Within W W' S) (hS : ∀ b, S b → ∃ t cs, Bk W b t cs ∧ t ≠ 3) : Lst .i64 3 W' m ms :=
  hl.within hW fun g e hg => by
    obtain ⟨cs, hcs⟩ := hl.bk e
    obtain ⟨t, cs', h1, h2⟩ := hS g hg
    exact Bk.unlike hcs h1 (fun e => h2 e.symm) rfl

section
variable {w w' : World} {X : XP} {k : Lk} {m : Mc}
set_option maxHeartbeats 4000000 in
theorem xBegin (h : Ex w X k m) (t : Nat) (ht : t < k.n) (un : Bool) :
    Calls Tryz.prog 10 #[.pointer (some ⟨X.x, 0, none⟩), .int .i64 t, .bool un] w (Came w X k (beginM k m t un)) := by
  have hnn := h.lk.n64
  have hl := h.lk.parts.2.1
  have hx := h.mc.cs t ht
  obtain ⟨r0, r1, r2, r3, r4, r5, r6, r7, pc, ec⟩ := h.core_cons ht
  have HB0 := fun (v : Value) W hW => cBegin ⟨k.l, k.lo, k.un⟩ v (m.cs t).xs (m.cs t).pc t un W hW hl h.lk.ok hx (by omega) (by omega)
  have hE := runL_eight h.lk.ok (self := (t : Int)) (by omega) (by omega) 256 (m.cs t).xs (if un then k.un else k.lo) [] hx
  obtain ⟨RR, hRR⟩ : ∃ R, R = runL (t : Int) k.l 256 (m.cs t).xs (if un then k.un else k.lo) [] := ⟨_, rfl⟩
  rw [← hRR] at hE
  have HR : Hid (beginM k m t un = ({ m with cs := updN m.cs t ⟨RR.xs, RR.pc⟩ }, ⟨RR.ms, RR.done, -1, false, false, RR.e⟩)) := Lib.hid (by unfold beginM runM; simp only [hRR])
  have HX := Lib.hid h
  obtain ⟨sxs, PC, ms, D, E⟩ := RR
  simp only at hE HR
  obtain ⟨s0, s1, s2, s3, s4, s5, s6, s7, rfl⟩ := eight_cons hE.1
  have HE8 := Lib.hid hE
  have HB : Hid (∀ W, Ex W X k m → Calls Tryz.prog 27 #[.agg #[.int .u32 r0, .int .u32 r1, .int .u32 r2, .int .u32 r3, .int .u32 r4, .int .u32 r5, .int .u32 r6, .int .u32 r7, .int .i64 pc], .agg #[X.cv, .int .i64 k.lo, .int .i64 k.un], .int .i64 t, .bool un] W fun e w' => ∃ m5, e = .returned (.tuple #[.agg #[.int .u32 s0, .int .u32 s1, .int .u32 s2, .int .u32 s3, .int .u32 s4, .int .u32 s5, .int .u32 s6, .int .u32 s7, .int .i64 PC], m5, .int .i64 D, .int .i64 E]) ∧ Lst .i64 3 w' m5 ms ∧ Below W.heap.size W w') := Lib.hid fun W hW => by
    have h1 := HB0 _ W hW.pv.1
    rw [ec] at h1 hRR
    simp only at h1
    rw [← hRR] at h1
    exact h1.mono fun e w' ⟨m5, q1, q2, q3⟩ => ⟨m5, q1, q2, q3⟩
  clear HB0 hE hRR hx
  rw [HR.out]
  clear HR
  have q0 := Bk.made w 51 #[.slice none 0 0, .int .i64 0, .int .i64 0, .bool false, .bool false, .int .i64 0]
  have b0 : Below w.heap.size w (w.alloc (.cells #[.slice none 0 0, .int .i64 0, .int .i64 0, .bool false, .bool false, .int .i64 0] 51)) := (Below.refl _ _).alloc (Nat.le_refl _) _
  go_enter Tryz.func10, Tryz.ntmps10
  go_upto_region 1 with fail
  generalize w.alloc (.cells #[.slice none 0 0, .int .i64 0, .int .i64 0, .bool false, .bool false, .int .i64 0] 51) = y at *
  have h2 := h.below b0
  go_wp2_with fail
  refine (xThread h2 t ht).mono ?_
  rintro e w' ⟨rfl, rfl⟩
  clear h
  go_upto_region 3 with fail
  refine wp_region_put 19 20 66 #[.int .u32 0, .int .u32 0, .int .u32 0, .int .u32 0, .int .u32 0, .int .u32 0, .int .u32 0, .int .u32 0, .int .i64 0] (fun W b => put9 W b (.int .u32 s0) (.int .u32 s1) (.int .u32 s2) (.int .u32 s3) (.int .u32 s4) (.int .u32 s5) (.int .u32 s6) (.int .u32 s7) (.int .i64 PC)) (fun W b => Cb W b [s0, s1, s2, s3, s4, s5, s6, s7] PC) (fun vs => { tmps := #[.pointer (some ⟨X.x, 0, none⟩), .int .i64 (t : Int), .bool un, undef, undef, undef, .pointer (some ⟨w.heap.size, 0, none⟩), vs 19, vs 21, vs 22, vs 23, .pointer (some ⟨X.x, 0, none⟩), .int .i64 (t : Int), .bool true, .bool false, undef, vs 14, vs 0, vs 1, vs 2, vs 3, vs 4, vs 5, vs 6, vs 7, vs 8, vs 9, vs 10, vs 11, vs 12, vs 13, vs 15, vs 16, vs 17, vs 18, undef, undef, undef, undef, undef, undef, undef, undef, undef, undef, undef], defers := [] }) (mixT [(13, (TupR (.agg #[.int .u32 s0, .int .u32 s1, .int .u32 s2, .int .u32 s3, .int .u32 s4, .int .u32 s5, .int .u32 s6, .int .u32 s7, .int .i64 PC]) ms D E)), (14, (TupR (.agg #[.int .u32 s0, .int .u32 s1, .int .u32 s2, .int .u32 s3, .int .u32 s4, .int .u32 s5, .int .u32 s6, .int .u32 s7, .int .i64 PC]) ms D E)), (16, (fun v W => Lst .i64 3 W v ms)), (21, (fun v W => Lst .i64 3 W v ms))] [.pointer (some ⟨X.x, 0, none⟩), .pointer (some ⟨X.x, 0, none⟩), .pointer (some ⟨X.x, 5, none⟩), .slice (some ⟨X.kb, 0, none⟩) k.n k.n, .int .i64 (t : Int), .pointer (some ⟨X.kb, t * 9, none⟩), .agg #[.int .u32 r0, .int .u32 r1, .int .u32 r2, .int .u32 r3, .int .u32 r4, .int .u32 r5, .int .u32 r6, .int .u32 r7, .int .i64 pc], .pointer (some ⟨X.x, 0, none⟩), .pointer (some ⟨X.x, 0, none⟩), .pointer (some ⟨X.x, 0, none⟩), .agg #[X.cv, .int .i64 k.lo, .int .i64 k.un], .int .i64 (t : Int), .bool un, undef, undef, .agg #[.int .u32 s0, .int .u32 s1, .int .u32 s2, .int .u32 s3, .int .u32 s4, .int .u32 s5, .int .u32 s6, .int .u32 s7, .int .i64 PC], undef, .int .i64 D, .int .i64 E, undef, undef, undef, .int .i64 D, .int .i64 E]) ?ghm ?ghr ?ghns ?ghlen ?glit ?gst ?gst2 ?gd1 ?gbel ?gdn ?gnew ?gsto ?gops ?gdone
  case ghm => kernel_rfl
  case ghr => kernel_rfl
  case ghns => kernel_rfl
  case ghlen => rfl
  case glit => intro vs; rfl
  case gst => exact mixT_stable (by
    intro p hp
    simp only [List.mem_cons, List.not_mem_nil, or_false] at hp
    rcases hp with rfl | rfl | rfl | rfl
    · exact fun v W W2 h hb => TupR.below h hb
    · exact fun v W W2 h hb => TupR.below h hb
    · exact fun v W W2 h hb => lst_below h hb
    · exact fun v W W2 h hb => lst_below h hb)
  case gst2 =>
    have hk := mixT_keep (R := fun W W2 => ∃ b, Bk W b 66 #[.int .u32 0, .int .u32 0, .int .u32 0, .int .u32 0, .int .u32 0, .int .u32 0, .int .u32 0, .int .u32 0, .int .i64 0] ∧ W2 = put9 W b (.int .u32 s0) (.int .u32 s1) (.int .u32 s2) (.int .u32 s3) (.int .u32 s4) (.int .u32 s5) (.int .u32 s6) (.int .u32 s7) (.int .i64 PC)) (ps := [(13, (TupR (.agg #[.int .u32 s0, .int .u32 s1, .int .u32 s2, .int .u32 s3, .int .u32 s4, .int .u32 s5, .int .u32 s6, .int .u32 s7, .int .i64 PC]) ms D E)), (14, (TupR (.agg #[.int .u32 s0, .int .u32 s1, .int .u32 s2, .int .u32 s3, .int .u32 s4, .int .u32 s5, .int .u32 s6, .int .u32 s7, .int .i64 PC]) ms D E)), (16, (fun v W => Lst .i64 3 W v ms)), (21, (fun v W => Lst .i64 3 W v ms))]) (l := [.pointer (some ⟨X.x, 0, none⟩), .pointer (some ⟨X.x, 0, none⟩), .pointer (some ⟨X.x, 5, none⟩), .slice (some ⟨X.kb, 0, none⟩) k.n k.n, .int .i64 (t : Int), .pointer (some ⟨X.kb, t * 9, none⟩), .agg #[.int .u32 r0, .int .u32 r1, .int .u32 r2, .int .u32 r3, .int .u32 r4, .int .u32 r5, .int .u32 r6, .int .u32 r7, .int .i64 pc], .pointer (some ⟨X.x, 0, none⟩), .pointer (some ⟨X.x, 0, none⟩), .pointer (some ⟨X.x, 0, none⟩), .agg #[X.cv, .int .i64 k.lo, .int .i64 k.un], .int .i64 (t : Int), .bool un, undef, undef, .agg #[.int .u32 s0, .int .u32 s1, .int .u32 s2, .int .u32 s3, .int .u32 s4, .int .u32 s5, .int .u32 s6, .int .u32 s7, .int .i64 PC], undef, .int .i64 D, .int .i64 E, undef, undef, undef, .int .i64 D, .int .i64 E]) (by
      intro p hp
      simp only [List.mem_cons, List.not_mem_nil, or_false] at hp
      rcases hp with rfl | rfl | rfl | rfl
      · rintro v W W2 ⟨m5, e5, h5⟩ ⟨b, hk, rfl⟩; exact ⟨m5, e5, lst_put9 h5 hk (by decide) (.int .u32 s0) (.int .u32 s1) (.int .u32 s2) (.int .u32 s3) (.int .u32 s4) (.int .u32 s5) (.int .u32 s6) (.int .u32 s7) (.int .i64 PC)⟩
      · rintro v W W2 ⟨m5, e5, h5⟩ ⟨b, hk, rfl⟩; exact ⟨m5, e5, lst_put9 h5 hk (by decide) (.int .u32 s0) (.int .u32 s1) (.int .u32 s2) (.int .u32 s3) (.int .u32 s4) (.int .u32 s5) (.int .u32 s6) (.int .u32 s7) (.int .i64 PC)⟩
      · rintro v W W2 h ⟨b, hk, rfl⟩; exact lst_put9 h hk (by decide) (.int .u32 s0) (.int .u32 s1) (.int .u32 s2) (.int .u32 s3) (.int .u32 s4) (.int .u32 s5) (.int .u32 s6) (.int .u32 s7) (.int .i64 PC)
      · rintro v W W2 h ⟨b, hk, rfl⟩; exact lst_put9 h hk (by decide) (.int .u32 s0) (.int .u32 s1) (.int .u32 s2) (.int .u32 s3) (.int .u32 s4) (.int .u32 s5) (.int .u32 s6) (.int .u32 s7) (.int .i64 PC))
    exact fun i v W b h hb => hk i v W _ h ⟨b, hb, rfl⟩
  case gd1 => exact fun W W2 b h hb => Cb.below h hb
  case gbel => exact fun W b hb h => put9_below h hb (.int .u32 s0) (.int .u32 s1) (.int .u32 s2) (.int .u32 s3) (.int .u32 s4) (.int .u32 s5) (.int .u32 s6) (.int .u32 s7) (.int .i64 PC)
  case gdn => exact fun W b h => put9_bk h (.int .u32 s0) (.int .u32 s1) (.int .u32 s2) (.int .u32 s3) (.int .u32 s4) (.int .u32 s5) (.int .u32 s6) (.int .u32 s7) (.int .i64 PC)
  case gnew =>
    intro o ho vs W hW
    injection ho with ho
    subst ho
    refine leaves_free rfl ?_
    go_simp
    exact ⟨⟨W.heap.size, rfl, hW.size, Cb.made W [0, 0, 0, 0, 0, 0, 0, 0] 0⟩, (Below.refl _ _).alloc (Nat.le_refl _) _⟩
  case gsto =>
    intro o ho vs W b hW hd hb hk
    injection ho with ho
    subst ho
    have ev : vs 15 = .agg #[.int .u32 s0, .int .u32 s1, .int .u32 s2, .int .u32 s3, .int .u32 s4, .int .u32 s5, .int .u32 s6, .int .u32 s7, .int .i64 PC] := hd 15 (by decide) rfl
    have zf := Bk.free hk
    obtain ⟨z0, z1, z2, z3, z4, z5, z6, z7, z8⟩ := Cb.cells hk
    refine leavesIf_free rfl ?_
    clear hd
    go_simp
    rfl
  case gops =>
    refine ⟨?_, ?_, ?_, ?_, ?_, ?_, ?_, ?_, ?_, ?_, ?_, ?_, ?_, ?_, ?_, ?_, ?_, ?_, ?_, ?_, ?_, ?_, ?_, ?_, trivial⟩
    · intro _ vs W hW hd
      refine leaves_free rfl ?_
      go_simp
      exact ⟨rfl, Below.refl _ _⟩
    · intro _ vs W hW hd
      refine leaves_free rfl ?_
      have e0 : vs 0 = .pointer (some ⟨X.x, 0, none⟩) := hd 0 (by decide) rfl
      go_simp
      exact ⟨rfl, Below.refl _ _⟩
    · intro _ vs W hW hd
      refine leaves_free rfl ?_
      have e1 : vs 1 = .pointer (some ⟨X.x, 0, none⟩) := hd 1 (by decide) rfl
      go_simp
      exact ⟨rfl, Below.refl _ _⟩
    · intro _ vs W hW hd
      refine leaves_free rfl ?_
      have e2 : vs 2 = .pointer (some ⟨X.x, 5, none⟩) := hd 2 (by decide) rfl
      have hq := h2.below hW; have c0x := hq.c0; have c1x := hq.c1; have c2x := hq.c2; have c5x := hq.c5; obtain ⟨c0, c1, c2, c3, c4, c5, c6, c7, c8⟩ := hq.core ht ec; clear hq
      go_simp
      exact ⟨rfl, Below.refl _ _⟩
    · intro _ vs W hW hd
      refine leaves_free rfl ?_
      go_simp
      exact ⟨rfl, Below.refl _ _⟩
    · intro _ vs W hW hd
      refine leaves_free rfl ?_
      have e3 : vs 3 = .slice (some ⟨X.kb, 0, none⟩) k.n k.n := hd 3 (by decide) rfl
      have e4 : vs 4 = .int .i64 (t : Int) := hd 4 (by decide) rfl
      go_simp
      exact ⟨rfl, Below.refl _ _⟩
    · intro _ vs W hW hd
      refine leaves_free rfl ?_
      have e5 : vs 5 = .pointer (some ⟨X.kb, t * 9, none⟩) := hd 5 (by decide) rfl
      have hq := h2.below hW; have c0x := hq.c0; have c1x := hq.c1; have c2x := hq.c2; have c5x := hq.c5; obtain ⟨c0, c1, c2, c3, c4, c5, c6, c7, c8⟩ := hq.core ht ec; clear hq
      go_simp
      exact ⟨rfl, Below.refl _ _⟩
    · intro _ vs W hW hd
      refine leaves_free rfl ?_
      go_simp
      exact ⟨rfl, Below.refl _ _⟩
    · intro _ vs W hW hd
      refine leaves_free rfl ?_
      have e7 : vs 7 = .pointer (some ⟨X.x, 0, none⟩) := hd 7 (by decide) rfl
      go_simp
      exact ⟨rfl, Below.refl _ _⟩
    · intro _ vs W hW hd
      refine leaves_free rfl ?_
      have e8 : vs 8 = .pointer (some ⟨X.x, 0, none⟩) := hd 8 (by decide) rfl
      go_simp
      exact ⟨rfl, Below.refl _ _⟩
    · intro _ vs W hW hd
      refine leaves_free rfl ?_
      have e9 : vs 9 = .pointer (some ⟨X.x, 0, none⟩) := hd 9 (by decide) rfl
      have hq := h2.below hW; have c0x := hq.c0; have c1x := hq.c1; have c2x := hq.c2; have c5x := hq.c5; obtain ⟨c0, c1, c2, c3, c4, c5, c6, c7, c8⟩ := hq.core ht ec; clear hq
      go_simp
      exact ⟨rfl, Below.refl _ _⟩
    · intro _ vs W hW hd
      refine leaves_free rfl ?_
      go_simp
      exact ⟨rfl, Below.refl _ _⟩
    · intro _ vs W hW hd
      refine leaves_free rfl ?_
      go_simp
      exact ⟨rfl, Below.refl _ _⟩
    · intro _ vs W hW hd
      refine leaves_free rfl ?_
      have e6 : vs 6 = .agg #[.int .u32 r0, .int .u32 r1, .int .u32 r2, .int .u32 r3, .int .u32 r4, .int .u32 r5, .int .u32 r6, .int .u32 r7, .int .i64 pc] := hd 6 (by decide) rfl
      have e10 : vs 10 = .agg #[X.cv, .int .i64 k.lo, .int .i64 k.un] := hd 10 (by decide) rfl
      have e11 : vs 11 = .int .i64 (t : Int) := hd 11 (by decide) rfl
      have e12 : vs 12 = .bool un := hd 12 (by decide) rfl
      have HS := Lib.hid (HB.out W (h2.below hW))
      clear hd
      go_simp
      refine HS.out.mono ?_
      rintro e z ⟨m5, he, hm5, hz⟩
      exact ⟨_, he, ⟨m5, rfl, hm5⟩, hz⟩
    · intro _ vs W hW hd
      refine leaves_free rfl ?_
      obtain ⟨m5, e13, hm5⟩ : TupR (.agg #[.int .u32 s0, .int .u32 s1, .int .u32 s2, .int .u32 s3, .int .u32 s4, .int .u32 s5, .int .u32 s6, .int .u32 s7, .int .i64 PC]) ms D E (vs 13) W := hd 13 (by decide) rfl
      clear hd
      go_simp
      exact ⟨⟨m5, rfl, hm5⟩, Below.refl _ _⟩
    · intro _ vs W hW hd
      refine leaves_free rfl ?_
      obtain ⟨m5, e14, hm5⟩ : TupR (.agg #[.int .u32 s0, .int .u32 s1, .int .u32 s2, .int .u32 s3, .int .u32 s4, .int .u32 s5, .int .u32 s6, .int .u32 s7, .int .i64 PC]) ms D E (vs 14) W := hd 14 (by decide) rfl
      clear hd
      go_simp
      exact ⟨rfl, Below.refl _ _⟩
    · intro _ vs W hW hd
      refine leaves_free rfl ?_
      obtain ⟨m5, e14, hm5⟩ : TupR (.agg #[.int .u32 s0, .int .u32 s1, .int .u32 s2, .int .u32 s3, .int .u32 s4, .int .u32 s5, .int .u32 s6, .int .u32 s7, .int .i64 PC]) ms D E (vs 14) W := hd 14 (by decide) rfl
      clear hd
      go_simp
      exact ⟨hm5, Below.refl _ _⟩
    · intro _ vs W hW hd
      refine leaves_free rfl ?_
      obtain ⟨m5, e14, hm5⟩ : TupR (.agg #[.int .u32 s0, .int .u32 s1, .int .u32 s2, .int .u32 s3, .int .u32 s4, .int .u32 s5, .int .u32 s6, .int .u32 s7, .int .i64 PC]) ms D E (vs 14) W := hd 14 (by decide) rfl
      clear hd
      go_simp
      exact ⟨rfl, Below.refl _ _⟩
    · intro _ vs W hW hd
      refine leaves_free rfl ?_
      obtain ⟨m5, e14, hm5⟩ : TupR (.agg #[.int .u32 s0, .int .u32 s1, .int .u32 s2, .int .u32 s3, .int .u32 s4, .int .u32 s5, .int .u32 s6, .int .u32 s7, .int .i64 PC]) ms D E (vs 14) W := hd 14 (by decide) rfl
      clear hd
      go_simp
      exact ⟨rfl, Below.refl _ _⟩
    · exact fun h => absurd h (by decide)
    · exact fun h => absurd h (by decide)
    · intro _ vs W hW hd
      refine leaves_free rfl ?_
      have h8 : Lst .i64 3 W (vs 16) ms := hd 16 (by decide) rfl
      clear hd
      go_simp
      exact ⟨h8, Below.refl _ _⟩
    · intro _ vs W hW hd
      refine leaves_free rfl ?_
      have e17 : vs 17 = .int .i64 D := hd 17 (by decide) rfl
      go_simp
      exact ⟨rfl, Below.refl _ _⟩
    · intro _ vs W hW hd
      refine leaves_free rfl ?_
      have e18 : vs 18 = .int .i64 E := hd 18 (by decide) rfl
      go_simp
      exact ⟨rfl, Below.refl _ _⟩
  case gdone =>
    intro vs W b hW hf hgv hgb pb
    have f0 : vs 0 = .pointer (some ⟨X.x, 0, none⟩) := hf 0 (by decide) rfl
    have f1 : vs 1 = .pointer (some ⟨X.x, 0, none⟩) := hf 1 (by decide) rfl
    have f2 : vs 2 = .pointer (some ⟨X.x, 5, none⟩) := hf 2 (by decide) rfl
    have f3 : vs 3 = .slice (some ⟨X.kb, 0, none⟩) k.n k.n := hf 3 (by decide) rfl
    have f4 : vs 4 = .int .i64 (t : Int) := hf 4 (by decide) rfl
    have f5 : vs 5 = .pointer (some ⟨X.kb, t * 9, none⟩) := hf 5 (by decide) rfl
    have f6 : vs 6 = .agg #[.int .u32 r0, .int .u32 r1, .int .u32 r2, .int .u32 r3, .int .u32 r4, .int .u32 r5, .int .u32 r6, .int .u32 r7, .int .i64 pc] := hf 6 (by decide) rfl
    have f7 : vs 7 = .pointer (some ⟨X.x, 0, none⟩) := hf 7 (by decide) rfl
    have f8 : vs 8 = .pointer (some ⟨X.x, 0, none⟩) := hf 8 (by decide) rfl
    have f9 : vs 9 = .pointer (some ⟨X.x, 0, none⟩) := hf 9 (by decide) rfl
    have f10 : vs 10 = .agg #[X.cv, .int .i64 k.lo, .int .i64 k.un] := hf 10 (by decide) rfl
    have f11 : vs 11 = .int .i64 (t : Int) := hf 11 (by decide) rfl
    have f12 : vs 12 = .bool un := hf 12 (by decide) rfl
    have f15 : vs 15 = .agg #[.int .u32 s0, .int .u32 s1, .int .u32 s2, .int .u32 s3, .int .u32 s4, .int .u32 s5, .int .u32 s6, .int .u32 s7, .int .i64 PC] := hf 15 (by decide) rfl
    have f17 : vs 17 = .int .i64 D := hf 17 (by decide) rfl
    have f18 : vs 18 = .int .i64 E := hf 18 (by decide) rfl
    have f22 : vs 22 = .int .i64 D := hf 22 (by decide) rfl
    have f23 : vs 23 = .int .i64 E := hf 23 (by decide) rfl
    simp only [f0, f1, f2, f3, f4, f5, f6, f7, f8, f9, f10, f11, f12, f15, f17, f18, f22, f23]
    have hm2 : Lst .i64 3 W (vs 21) ms := hf 21 (by decide) rfl
    simp only [hgv]
    clear hf hgv f0 f1 f2 f3 f4 f5 f6 f7 f8 f9 f10 f11 f12 f15 f17 f18 f22 f23
    generalize vs 21 = m2 at *
    generalize vs 13 = w13 at *
    generalize vs 14 = w14 at *
    generalize vs 16 = w16 at *
    have h3 := h2.below hW
    have q3 := (hW.block _ q0.lt).trans q0
    replace b0 := b0.trans (hW.mono b0.size)
    clear h2 q0 hW hgb
    have cx5 := h3.c5
    obtain ⟨c0, c1, c2, c3, c4, c5, c6, c7, c8⟩ := h3.core ht ec
    obtain ⟨d0, d1, d2, d3, d4, d5, d6, d7, d8⟩ := pb.cells
    have zf := h3.free
    have hOwn : ∀ i, X.Own k.n i → i < w.heap.size := fun i hi => HX.out.lt hi
    have hkb : X.kb < w.heap.size := hOwn _ (.inr (.inr (.inl rfl)))
    have hkb2 : w.heap.size ≠ X.kb := by omega
    go_upto_region 4 with fail
    go_region
    have h4 := h3.put ht (c := ⟨[s0, s1, s2, s3, s4, s5, s6, s7], PC⟩) HE8.out
    have hw4 : Within W (putW W X.kb (t * 9) (corC [s0, s1, s2, s3, s4, s5, s6, s7] PC)) (fun i => i = X.kb) := .of_grown (putW_only _ _ _) (by rintro i e; injection e with e; exact .inl e.symm)
    have q4 := Bk.within q3 hw4 hkb2
    have l4 := lst_within hm2 hw4 (by rintro b' rfl; exact ⟨_, _, h3.cores, by decide⟩)
    have st4 := (XStays.of_grown (n := k.n) (X := X) b0).then_ (XStays.put (X := X) (n := k.n) (w := W) (t := t * 9) (vs := corC [s0, s1, s2, s3, s4, s5, s6, s7] PC))
    generalize hv4 : (((((((((W.setCell ⟨X.kb, (t * 9), none⟩ (.int .u32 s0)).setCell ⟨X.kb, (t * 9) + 1, none⟩ (.int .u32 s1)).setCell ⟨X.kb, (t * 9) + 2, none⟩ (.int .u32 s2)).setCell ⟨X.kb, (t * 9) + 3, none⟩ (.int .u32 s3)).setCell ⟨X.kb, (t * 9) + 4, none⟩ (.int .u32 s4)).setCell ⟨X.kb, (t * 9) + 5, none⟩ (.int .u32 s5)).setCell ⟨X.kb, (t * 9) + 6, none⟩ (.int .u32 s6)).setCell ⟨X.kb, (t * 9) + 7, none⟩ (.int .u32 s7)).setCell ⟨X.kb, (t * 9) + 8, none⟩ (.int .i64 PC)) = v4
    replace hv4 : putW W X.kb (t * 9) (corC [s0, s1, s2, s3, s4, s5, s6, s7] PC) = v4 := hv4
    rw [hv4] at h4 hw4 q4 l4 st4
    clear hv4 hw4 h3 q3 hm2 b0 c0 c1 c2 c3 c4 c5 c6 c7 c8 d0 d1 d2 d3 d4 d5 d6 d7 d8 zf pb cx5
    replace h4 := h4.below (Below.refl _ v4).drew
    replace q4 : Bk v4.drew _ _ _ := q4
    replace l4 : Lst .i64 3 v4.drew m2 ms := l4
    replace st4 := st4.grown (Below.refl _ v4).drew
    generalize v4.drew = v5 at *
    obtain ⟨z0, z1, z2, z3, z4, z5⟩ : v5.cell? ⟨w.heap.size, 0, none⟩ = some (.slice none 0 0) ∧ v5.cell? ⟨w.heap.size, 1, none⟩ = some (.int .i64 0) ∧ v5.cell? ⟨w.heap.size, 2, none⟩ = some (.int .i64 0) ∧ v5.cell? ⟨w.heap.size, 3, none⟩ = some (.bool false) ∧ v5.cell? ⟨w.heap.size, 4, none⟩ = some (.bool false) ∧ v5.cell? ⟨w.heap.size, 5, none⟩ = some (.int .i64 0) := ⟨q4.cell 0, q4.cell 1, q4.cell 2, q4.cell 3, q4.cell 4, q4.cell 5⟩
    have zf := Bk.free q4
    have p1 := put6_bk q4 m2 (.int .i64 D) (.int .i64 (-1)) (.bool false) (.bool false) (.int .i64 E)
    have p2 := put6_within (y := v5) (g := w.heap.size) m2 (.int .i64 D) (.int .i64 (-1)) (.bool false) (.bool false) (.int .i64 E)
    obtain ⟨a9, c9, e9, -⟩ := l4.is
    have l6 := lst_within l4 p2 (by rintro b' rfl; exact ⟨_, _, q4, by decide⟩)
    have h6 := h4.far (n := w.heap.size) (b := w.heap.size) (p2.wide (fun i e _ => by omega)) (fun i hi => .inl (hOwn i hi))
    have st6 := st4.far (n := w.heap.size) (b := w.heap.size) (p2.wide (fun i e _ => by omega)) (Nat.le_refl _)
    subst e9
    go_wp2
    generalize hv9 : ((((((v5.setCell ⟨w.heap.size, 0, none⟩ ((.slice a9 ms.length c9))).setCell ⟨w.heap.size, 1, none⟩ (.int .i64 D)).setCell ⟨w.heap.size, 2, none⟩ (.int .i64 (-1))).setCell ⟨w.heap.size, 3, none⟩ (.bool false)).setCell ⟨w.heap.size, 4, none⟩ (.bool false)).setCell ⟨w.heap.size, 5, none⟩ (.int .i64 E)) = v9
    replace hv9 : put6 v5 w.heap.size (.slice a9 ms.length c9) (.int .i64 D) (.int .i64 (-1)) (.bool false) (.bool false) (.int .i64 E) = v9 := hv9
    rw [hv9] at p1 l6 h6 st6
    clear hv9 p2 h4 st4 l4 q4 z0 z1 z2 z3 z4 z5 zf
    obtain ⟨o0, o1, o2, o3, o4, o5⟩ : v9.cell? ⟨w.heap.size, 0, none⟩ = some (.slice a9 ms.length c9) ∧ v9.cell? ⟨w.heap.size, 1, none⟩ = some (.int .i64 D) ∧ v9.cell? ⟨w.heap.size, 2, none⟩ = some (.int .i64 (-1)) ∧ v9.cell? ⟨w.heap.size, 3, none⟩ = some (.bool false) ∧ v9.cell? ⟨w.heap.size, 4, none⟩ = some (.bool false) ∧ v9.cell? ⟨w.heap.size, 5, none⟩ = some (.int .i64 E) := ⟨p1.cell 0, p1.cell 1, p1.cell 2, p1.cell 3, p1.cell 4, p1.cell 5⟩
    exact bodyPost_ret (v := .agg #[(.slice a9 ms.length c9), .int .i64 D, .int .i64 (-1), .bool false, .bool false, .int .i64 E]) (by simp [results, Tryz.results10, go_sem, o0, o1, o2, o3, o4, o5]) rfl ⟨.slice a9 ms.length c9, X.M, rfl, l6, h6, st6⟩
end
end Go.Proofs.YtpinpipjlongaaaGreat

/- The document's lock: a node is taken, a node comes back; what a step is, as plain lists. -/
namespace Go.Proofs.YtpinpipjlongaaaGreat
set_option maxRecDepth 100000
open Go.ChangeShapes Go.WideShapes Go.ChangeAt Go.RowKit
set_option linter.unusedVariables false

section
variable {w w' : World} {Y : YP} {k : Lk} {m : Mc}
theorem Ey.hdl_range (h : Ey w Y k m) (t : Nat) (ht : t < k.n) : 0 ≤ (takeN m.pn t).2 ∧ (takeN m.pn t).2 < 4294967296 := by
  obtain ⟨fr, os, c, hs⟩ := h.same
  unfold takeN
  cases he : m.pn.free t with
  | nil => simp
  | cons q rest =>
    obtain ⟨hq, _⟩ := hs.take ht he
    exact hdl_word hs hq
theorem yPTake (h : Ey w Y k m) (t : Nat) (ht : t < k.n) :
    Calls Tryz.prog 32 #[.pointer (some ⟨Y.x, 0, none⟩), .int .i64 t] w fun e w' => e = .returned (.tuple #[.int .u32 (takeN m.pn t).2, .int .i64 0]) ∧ ∃ R', Ey w' { Y with R := R' } k { m with pn := (takeN m.pn t).1 } ∧ YStays w k.n Y w' { Y with R := R' } := by
  obtain ⟨fr, os, c, hs⟩ := h.same
  have hp := h.pool
  unfold takeN
  cases he : m.pn.free t with
  | nil =>
    refine (rfTakeNone hp hs.few t ht he).mono ?_
    rintro e w' ⟨rfl, rfl⟩
    exact ⟨rfl, Y.R, h, YStays.refl _ _ _⟩
  | cons q rest =>
    obtain ⟨hq, ho, hfr, hos, hs2⟩ := hs.take ht he
    refine (rfTake hp hs.few t ht he hs.lenG hs.lenO hs.le hs.gens hq).mono ?_
    rintro e w' ⟨R', rfl, hp2, hst⟩
    obtain ⟨h1, h2⟩ := h.nodes (pn' := ⟨updN m.pn.free t rest, m.pn.gen, m.pn.out.set q 1⟩) hp2 ⟨_, _, _, hs2⟩ hst
    exact ⟨rfl, R', h1, h2⟩
theorem yPBack (h : Ey w Y k m) (x : Int) (h0 : 0 ≤ x) (h1 : x < 4294967296) :
    Calls Tryz.prog 33 #[.pointer (some ⟨Y.x, 0, none⟩), .int .u32 x] w fun e w' => match backN k.each m.pn x with
      | none => e = .returned (.int .i64 10) ∧ w = w'
      | some p => e = .returned (.int .i64 0) ∧ ∃ R', Ey w' { Y with R := R' } k { m with pn := p } ∧ YStays w k.n Y w' { Y with R := R' } := by
  obtain ⟨fr, os, c, hs⟩ := h.same
  have hp := h.pool
  unfold backN
  by_cases hz : x = 0
  · subst hz
    rw [if_pos rfl]
    refine rfBack0.mono ?_
    rintro e w' ⟨rfl, rfl⟩
    exact ⟨rfl, Y.R, h, YStays.refl _ _ _⟩
  · rw [if_neg hz, isN_isO hs]
    cases hos : isO (k.n * k.each) m.pn.gen m.pn.out x with
    | false =>
      refine (rfBackNo hp hs.lenG hs.lenO hs.le hs.gens hs.outs x h0 h1 hos hz).mono ?_
      rintro e w' ⟨rfl, rfl⟩
      exact ⟨rfl, rfl⟩
    | true =>
      obtain ⟨t, i, ht, hi, hn, hl, hc, hs2⟩ := hs.back h0 h1 (by rw [hs.oss x h0 h1]; exact hos)
      have hlt : t * k.each + i < k.n * k.each := hs.in_ ht (by omega)
      have hlf : (m.pn.free t).length ≤ 8 := by
        have h1 := hs.own t ht
        have := nodup_len k.each (t * k.each) _ (hs.dup t ht) (fun q hq => ⟨(h1 q hq).1, (h1 q hq).2.1⟩)
        have := hs.eight
        omega
      refine (rfBack hp hs.few hs.eight hs.lenG hs.lenO hs.le hs.gens hs.outs x h0 h1 hos ht hi hlt hn hlf).mono ?_
      rintro e w' ⟨R', rfl, hp2, hst⟩
      have e1 : (x % 4096 - 1).toNat = t * k.each + i := by omega
      have e2 : (t * k.each + i) / k.each = t := by rw [Nat.mul_comm, Nat.mul_add_div (by omega), Nat.div_eq_of_lt hi, Nat.add_zero]
      simp only [if_true, e1, e2]
      obtain ⟨h1, h2⟩ := h.nodes (pn' := ⟨updN m.pn.free t (m.pn.free t ++ [t * k.each + i]), m.pn.gen.set (t * k.each + i) ((x / 4096 + 1) % 262144), m.pn.out.set (t * k.each + i) 0⟩) hp2 ⟨_, _, _, hs2⟩ hst
      exact ⟨trivial, R', h1, h2⟩
end

section
variable {k : Lk} {m : Mc} {t : Nat} {late : Bool} {i : Ins}
theorem step_take (hm : memI k (m.cs t).pc = some i) (h : i.op = 22) : stepM k m t late = runM k { m with pn := (takeN m.pn t).1 } t ⟨(m.cs t).xs.set i.d.toNat (takeN m.pn t).2, (m.cs t).pc + 1⟩ ⟨[], 0, -1, false, false, 0⟩ := by
  unfold stepM
  simp only [hm, h, if_true]
theorem step_back (hm : memI k (m.cs t).pc = some i) (h : i.op = 23) : stepM k m t late = match backN k.each m.pn (nth (m.cs t).xs i.s.toNat) with
    | none => (m, trapO)
    | some p => runM k { m with pn := p } t ⟨(m.cs t).xs, (m.cs t).pc + 1⟩ ⟨[], 0, -1, false, false, 0⟩ := by
  unfold stepM
  simp only [hm, h]
  rfl
theorem step_find (hm : memI k (m.cs t).pc = some i) (h : i.op ≠ 22) (h' : i.op ≠ 23) : stepM k m t late = match findM k.zs i.a (nth (m.cs t).xs i.s.toNat) with
    | none => (m, trapO)
    | some a => accM k m t (m.cs t) late i a := by
  unfold stepM
  simp only [hm, if_neg h, if_neg h']
  rfl
end
end Go.Proofs.YtpinpipjlongaaaGreat

/- The law's Alike: the program's lock and the document's, the same machine. -/
namespace Go.Proofs.YtpinpipjlongaaaGreat
set_option maxRecDepth 100000
open Go.ChangeShapes Go.WideShapes Go.ChangeAt Go.RowKit
set_option linter.unusedVariables false

theorem run_neR (xs : List Int) (p : Int) (hx : xs.length = 8) (w : World) : (binOp .neq 86 (rv xs p) (rv xs p)).run Tryz.prog w = .ok (.bool false) w := by
  obtain ⟨x0, x1, x2, x3, x4, x5, x6, x7, rfl⟩ := eight_cons hx
  unfold rv
  simp only [rorC, List.map_cons, List.map_nil, List.cons_append, List.nil_append]
  have hu := Tryz.underlying86
  have hs := fun W => same8_i64 x0 x1 x2 x3 x4 x5 x6 x7 9997 W
  simp only [Nat.reduceAdd] at hs
  go_simp

section
variable {w w' : World} {X : XP} {Y : YP} {k : Lk} {m : Mc}
theorem Ey.many (h : Ey w Y k m) (t : Nat) (ht : t < k.n) :
    Calls Tryz.prog 39 #[.pointer (some ⟨Y.x, 0, none⟩), .int .i64 t] w fun e w' => e = .returned (.int .i64 (manyN k.each m.pn t)) ∧ ∃ j, w' = w.drewN j := by
  obtain ⟨fr, os, c, hs⟩ := h.same
  have hle : (m.pn.free t).length ≤ k.each := by
    have h1 := hs.own t ht
    exact nodup_len k.each (t * k.each) _ (hs.dup t ht) (fun q hq => ⟨(h1 q hq).1, (h1 q hq).2.1⟩)
  have := rfMany h.pool hs.few hs.eight t ht hle
  refine this.mono ?_
  rintro e w' ⟨rfl, h2⟩
  exact ⟨by rw [show ((k.each - (m.pn.free t).length : Nat) : Int) = manyN k.each m.pn t by unfold manyN; omega], h2⟩

set_option maxHeartbeats 4000000 in
theorem lAlike (hx : Ex w X k m) (hy : Ey w Y k m) :
    Calls Tryz.prog 15 #[.pointer (some ⟨X.x, 0, none⟩), .pointer (some ⟨Y.y, 0, none⟩)] w fun e w' => e = .returned (.bool true) ∧ Below w.heap.size w w' := by
  have hn64 := hx.lk.n64
  have hwl : m.ws.length ≤ 8192 := by rw [hx.mc.len]; exact hx.lk.few
  have hW := xWords hx
  go_enter Tryz.func15, Tryz.ntmps15
  go_wp2_with fail
  refine hW.mono ?_
  rintro e y ⟨q, rfl, hQ, -, hq, hgr⟩
  have hb := below_of_grown hgr
  have hx1 := hx.below hb
  have hy1 := hy.below hb
  clear hW hgr hx hy hq
  obtain ⟨aw, capw, ew, hw1, hw2, hw3⟩ := hy1.wlIs
  unfold maxLen at hw2
  have cx4 := hy1.c4
  rw [ew] at cx4
  obtain ⟨gk, capk, ek, hk1, hk2, hkb, hkf, -⟩ := hy1.klIs
  unfold maxLen at hk2
  have cx6 := hy1.c6
  rw [ek] at cx6
  go_upto_region 2 with fail
  have g4 := fun g : Grw y => g.cell cx4
  have g6 := fun g : Grw y => g.cell cx6
  have HT : Hid (∀ g : Grw y, Calls Tryz.prog 36 #[.pointer (some ⟨X.x, 0, none⟩)] g.x fun e y' => e = .returned (.int .i64 k.n) ∧ g.x = y') := Lib.hid fun g => xThreads (hx1.below g.ok)
  refine wp_region_grow (by kernel_rfl) (by kernel_rfl) ?_
  repeat (go_big_quiet_step ((go_at_call 36; with_reducible exact grw_same (HT.out _))))
  refine wpQuiet_nil ?_
  rintro z ⟨⟨_, hz⟩, rfl⟩
  have HX := Lib.hid (hx1.below hz)
  have HY := Lib.hid (hy1.below hz)
  replace hQ := (hz.block _ hQ.lt).trans hQ
  have HB := Lib.hid (hb.trans (hz.mono hb.size))
  clear hx1 hy1 hb hz cx4 cx6 g4 g6 HT hw3 hkf hk1
  have HW3 : Hid (∀ i, i < m.ws.length → ∃ g, aw = some ⟨g, 0, none⟩ ∧ g < z.heap.size ∧ z.cell? ⟨g, i, none⟩ = some (.int .u32 (nth m.ws i))) := Lib.hid fun i hi => by
    obtain ⟨a2, cap2, e2, _, _, h3⟩ := HY.out.wlIs
    obtain ⟨g, e3, e4, _, h5⟩ := h3 (by omega)
    rw [ew] at e2
    injection e2 with e2
    refine ⟨g, by rw [e2]; exact e3, HY.out.words.lt e4, h5 i hi⟩
  have HQ := Lib.hid hQ
  have q4 : z.cell? ⟨Y.y, 4, none⟩ = some (.slice aw m.ws.length capw) := by have := HY.out.c4; rw [ew] at this; exact this
  clear hQ
  go_wp2
  go_loopw [30] (fun iv wr => ∃ i : Nat, i ≤ m.ws.length ∧ iv = .int .i64 i ∧ Below z.heap.size z wr) (fun iv _ => m.ws.length - (intOf iv).toNat)
  case atStart => exact ⟨0, Nat.zero_le _, rfl, Below.refl _ _⟩
  case round =>
    clear q4
    obtain ⟨i, hi, rfl, hb⟩ := hrel
    by_cases hlt : i < m.ws.length
    · obtain ⟨gw, rfl, hgl, cw⟩ := HW3.out i hlt
      have c1 := (hb.cell (p := ⟨gw, i, none⟩) hgl).trans cw
      have q4 : wr.cell? ⟨Y.y, 4, none⟩ = some (.slice (some ⟨gw, 0, none⟩) m.ws.length capw) := by
        have := (HY.out.below hb).c4; rw [ew] at this; exact this
      have c2 : wr.cell? ⟨q, i, none⟩ = some (.int .u32 (nth m.ws i)) := by
        have h5 : Bk wr q _ _ := (hb.block _ (Bk.lt HQ.out)).trans HQ.out
        have := h5.cell i
        rw [words_at _ i hlt] at this
        exact this
      have hil : (i : Int) < m.ws.length := by omega
      clear cw
      generalize nth m.ws i = V at *
      go_upto_region 7 with fail
      go_quiet (fail)
      have hb2 := hb.trans ((⟨rfl, rfl, rfl, Nat.le_refl _, fun _ _ => rfl⟩ : Below wr.heap.size wr (wr.drewN nq)).mono hb.size)
      clear c1 c2 q4 hb
      generalize wr.drewN nq = wy at *
      go_wp2
      go_roundw
      case rel => exact ⟨i + 1, by omega, by go_num, hb2⟩
      case measure => simp [intOf]; omega
    · obtain rfl : i = m.ws.length := by omega
      have q6 : wr.cell? ⟨Y.y, 6, none⟩ = some (.slice (some ⟨gk, 0, none⟩) k.n capk) := by
        have := (HY.out.below hb).c6; rw [ek] at this; exact this
      have HX2 := Lib.hid (HX.out.below hb)
      have HY2 := Lib.hid (HY.out.below hb)
      have HB2 := Lib.hid (HB.out.trans (hb.mono HB.out.size))
      clear hb HW3 HQ HB HX HY
      generalize wr = wq at *
      go_wp2
      clear q6
      go_loopw [51] (fun tv wx => ∃ t : Nat, t ≤ k.n ∧ tv = .int .i64 t ∧ Below wq.heap.size wq wx) (fun tv _ => k.n - (intOf tv).toNat)
      case atStart => exact ⟨0, Nat.zero_le _, rfl, Below.refl _ _⟩
      case round =>
        obtain ⟨t, ht, rfl, hb⟩ := hrel
        by_cases hlt : t < k.n
        · have hX := HX2.out.below hb
          have hY := HY2.out.below hb
          have d6 := hY.c6
          rw [ek] at d6
          have d5 := hY.c5
          obtain ⟨r0, r1, r2, r3, r4, r5, r6, r7, pc, ec⟩ := hY.core_cons hlt
          have h8 : Eight [r0, r1, r2, r3, r4, r5, r6, r7] := by have := hY.mc.cs t hlt; rw [ec] at this; exact this
          obtain ⟨c0, c1, c2, c3, c4, c5, c6, c7, c8⟩ := hY.core hlt ec ek
          have htl : (t : Int) < k.n := by omega
          have heq : ∀ W, (binOp .neq 86 (.agg #[.int .i64 r0, .int .i64 r1, .int .i64 r2, .int .i64 r3, .int .i64 r4, .int .i64 r5, .int .i64 r6, .int .i64 r7, .int .i64 pc]) (.agg #[.int .i64 r0, .int .i64 r1, .int .i64 r2, .int .i64 r3, .int .i64 r4, .int .i64 r5, .int .i64 r6, .int .i64 r7, .int .i64 pc])).run Tryz.prog W = .ok (.bool false) W := fun W => run_neR [r0, r1, r2, r3, r4, r5, r6, r7] pc rfl W
          have HC : Hid (∀ g : Grw wr, Calls Tryz.prog 19 #[.pointer (some ⟨X.x, 0, none⟩), .int .i64 t] g.x fun e y' => e = .returned (.agg #[.int .u32 r0, .int .u32 r1, .int .u32 r2, .int .u32 r3, .int .u32 r4, .int .u32 r5, .int .u32 r6, .int .u32 r7, .int .i64 pc]) ∧ Below g.x.heap.size g.x y') := Lib.hid fun g => by
            have h1 := xCore (hX.below g.ok) t hlt
            rw [ec] at h1
            exact h1
          have HR : Hid (∀ g : Grw wr, Calls Tryz.prog 37 #[.agg #[.int .u32 r0, .int .u32 r1, .int .u32 r2, .int .u32 r3, .int .u32 r4, .int .u32 r5, .int .u32 r6, .int .u32 r7, .int .i64 pc]] g.x fun e y' => e = .returned (.agg #[.int .i64 r0, .int .i64 r1, .int .i64 r2, .int .i64 r3, .int .i64 r4, .int .i64 r5, .int .i64 r6, .int .i64 r7, .int .i64 pc]) ∧ Below g.x.heap.size g.x y') := Lib.hid fun g => lRef8 [r0, r1, r2, r3, r4, r5, r6, r7] pc h8 g.x
          obtain ⟨MM, hMM⟩ : ∃ M, M = manyN k.each m.pn t := ⟨_, rfl⟩
          have HO : Hid (∀ g : Grw wr, Calls Tryz.prog 38 #[.pointer (some ⟨X.x, 0, none⟩), .int .i64 t] g.x fun e y' => e = .returned (.int .i64 MM) ∧ Below g.x.heap.size g.x y') := Lib.hid fun g => by
            rw [hMM]
            exact (xOut (hX.below g.ok) t hlt).mono fun e y' ⟨h1, j, h2⟩ => ⟨h1, h2 ▸ ⟨rfl, rfl, rfl, Nat.le_refl _, fun _ _ => rfl⟩⟩
          have HM : Hid (∀ g : Grw wr, Calls Tryz.prog 39 #[.pointer (some ⟨Y.x, 0, none⟩), .int .i64 t] g.x fun e y' => e = .returned (.int .i64 MM) ∧ Below g.x.heap.size g.x y') := Lib.hid fun g => by
            rw [hMM]
            exact ((hY.below g.ok).many t hlt).mono fun e y' ⟨h1, j, h2⟩ => ⟨h1, h2 ▸ ⟨rfl, rfl, rfl, Nat.le_refl _, fun _ _ => rfl⟩⟩
          clear hX hY hMM h8 ec
          go_upto_region 13 with fail
          have g5 := fun g : Grw wr => g.cell d5
          have g6 := fun g : Grw wr => g.cell d6
          have gc0 := fun g : Grw wr => g.cell c0
          have gc1 := fun g : Grw wr => g.cell c1
          have gc2 := fun g : Grw wr => g.cell c2
          have gc3 := fun g : Grw wr => g.cell c3
          have gc4 := fun g : Grw wr => g.cell c4
          have gc5 := fun g : Grw wr => g.cell c5
          have gc6 := fun g : Grw wr => g.cell c6
          have gc7 := fun g : Grw wr => g.cell c7
          have gc8 := fun g : Grw wr => g.cell c8
          clear d5 d6 c0 c1 c2 c3 c4 c5 c6 c7 c8
          refine wp_region_grow (by kernel_rfl) (by kernel_rfl) ?_
          repeat (go_big_quiet_step (first | (go_at_call 19; with_reducible exact grw_call (HC.out _)) | (go_at_call 37; with_reducible exact grw_call (HR.out _)) | (go_at_call 38; with_reducible exact grw_call (HO.out _)) | (go_at_call 39; with_reducible exact grw_call (HM.out _))))
          refine wpQuiet_nil ?_
          rintro wz ⟨⟨_, hz⟩, rfl⟩
          have hF := hb.trans (hz.mono hb.size)
          clear hb hz HC HR HO HM heq
          go_wp2
          go_roundw
          case rel => exact ⟨t + 1, by omega, by go_num, hF⟩
          case measure => simp [intOf]; omega
        · have hF := HB2.out.trans (hb.mono HB2.out.size)
          go_wp2
          go_ret
          exact ⟨rfl, hF⟩
end
end Go.Proofs.YtpinpipjlongaaaGreat

/- The document's local part of a step: run. -/
namespace Go.Proofs.YtpinpipjlongaaaGreat
set_option maxRecDepth 100000
open Go.ChangeShapes Go.WideShapes Go.ChangeAt Go.RowKit
set_option linter.unusedVariables false

section
variable {w w' : World} {Y : YP} {k : Lk} {m : Mc}
set_option maxHeartbeats 4000000 in
theorem yRun (h : Ey w Y k m) (t : Nat) (ht : t < k.n) (c : Cor) (hc : Eight c.xs) (o : Ot) (v0 : Value) (hv0 : v0 = .slice none 0 0) :
    Calls Tryz.prog 28 #[.pointer (some ⟨Y.y, 0, none⟩), .int .i64 t, rv c.xs c.pc, otR v0 o] w (CameY w Y k (runM k m t c o)) := by
  subst hv0
  have hnn := h.lk.n64
  have hl := h.lk.parts.2.1
  have HR0 := fun (v : Value) W hW => rRun ⟨k.l, k.lo, k.un⟩ v c.xs c.pc t W hW hl h.lk.ok hc (by omega) (by omega)
  have hE := runL_eight h.lk.ok (self := (t : Int)) (by omega) (by omega) 256 c.xs c.pc [] hc
  obtain ⟨cxs, pc⟩ := c
  simp only at hc HR0 hE ⊢
  obtain ⟨r0, r1, r2, r3, r4, r5, r6, r7, rfl⟩ := eight_cons hc.1
  obtain ⟨RR, hRR⟩ : ∃ R, R = runL (t : Int) k.l 256 [r0, r1, r2, r3, r4, r5, r6, r7] pc [] := ⟨_, rfl⟩
  rw [← hRR] at hE
  obtain ⟨oms, od, oa, ow, os, oe⟩ := o
  have HR : Hid (runM k m t ⟨[r0, r1, r2, r3, r4, r5, r6, r7], pc⟩ ⟨oms, od, oa, ow, os, oe⟩ = ({ m with cs := updN m.cs t ⟨RR.xs, RR.pc⟩ }, ⟨RR.ms, RR.done, oa, ow, os, RR.e⟩)) := Lib.hid (by unfold runM; simp only [hRR])
  have HX := Lib.hid h
  obtain ⟨sxs, PC, ms, D, E⟩ := RR
  simp only at hE HR
  obtain ⟨s0, s1, s2, s3, s4, s5, s6, s7, rfl⟩ := eight_cons hE.1
  have HE8 := Lib.hid hE
  have HB : Hid (∀ W, Ey W Y k m → Calls Tryz.prog 50 #[.agg #[.int .i64 r0, .int .i64 r1, .int .i64 r2, .int .i64 r3, .int .i64 r4, .int .i64 r5, .int .i64 r6, .int .i64 r7, .int .i64 pc], .agg #[Y.cv, .int .i64 k.lo, .int .i64 k.un], .int .i64 t] W fun e w' => ∃ m5, e = .returned (.tuple #[.agg #[.int .i64 s0, .int .i64 s1, .int .i64 s2, .int .i64 s3, .int .i64 s4, .int .i64 s5, .int .i64 s6, .int .i64 s7, .int .i64 PC], m5, .int .i64 D, .int .i64 E]) ∧ Lst .i64 3 w' m5 ms ∧ Below W.heap.size W w') := Lib.hid fun W hW => by
    have h1 := HR0 _ W hW.pv.1
    rw [← hRR] at h1
    exact h1.mono fun e w' ⟨m5, q1, q2, q3⟩ => ⟨m5, q1, q2, q3⟩
  clear HR0 hE hRR hc
  rw [HR.out]
  clear HR
  unfold otR rv
  simp only [rorC, List.map_cons, List.map_nil, List.cons_append, List.nil_append]
  have HOT : Hid (∀ v : Value, otR v ⟨ms, D, oa, ow, os, E⟩ = .agg #[v, .int .i64 D, .int .i64 oa, .int .i64 (one01 ow), .int .i64 (one01 os), .int .i64 E]) := Lib.hid fun v => rfl
  have q0 := ((Rb.made w [r0, r1, r2, r3, r4, r5, r6, r7] pc).alloc (.cells #[.slice none 0 0, .int .i64 od, .int .i64 oa, .int .i64 (one01 ow), .int .i64 (one01 os), .int .i64 oe] 54)).alloc (.cells #[.slice none 0 0, .int .i64 0, .int .i64 0, .int .i64 0, .int .i64 0, .int .i64 0] 54)
  have q1 := (Bk.made (w.alloc (.cells #[.int .i64 r0, .int .i64 r1, .int .i64 r2, .int .i64 r3, .int .i64 r4, .int .i64 r5, .int .i64 r6, .int .i64 r7, .int .i64 pc] 86)) 54 #[.slice none 0 0, .int .i64 od, .int .i64 oa, .int .i64 (one01 ow), .int .i64 (one01 os), .int .i64 oe]).alloc (.cells #[.slice none 0 0, .int .i64 0, .int .i64 0, .int .i64 0, .int .i64 0, .int .i64 0] 54)
  have q2 := Bk.made ((w.alloc (.cells #[.int .i64 r0, .int .i64 r1, .int .i64 r2, .int .i64 r3, .int .i64 r4, .int .i64 r5, .int .i64 r6, .int .i64 r7, .int .i64 pc] 86)).alloc (.cells #[.slice none 0 0, .int .i64 od, .int .i64 oa, .int .i64 (one01 ow), .int .i64 (one01 os), .int .i64 oe] 54)) 54 #[.slice none 0 0, .int .i64 0, .int .i64 0, .int .i64 0, .int .i64 0, .int .i64 0]
  simp only [World.size_alloc] at q1 q2
  simp only [rorC, List.map_cons, List.map_nil, List.cons_append, List.nil_append] at q0
  have b0 : Below w.heap.size w (((w.alloc (.cells #[.int .i64 r0, .int .i64 r1, .int .i64 r2, .int .i64 r3, .int .i64 r4, .int .i64 r5, .int .i64 r6, .int .i64 r7, .int .i64 pc] 86)).alloc (.cells #[.slice none 0 0, .int .i64 od, .int .i64 oa, .int .i64 (one01 ow), .int .i64 (one01 os), .int .i64 oe] 54)).alloc (.cells #[.slice none 0 0, .int .i64 0, .int .i64 0, .int .i64 0, .int .i64 0, .int .i64 0] 54)) := (((Below.refl _ _).alloc (Nat.le_refl _) _).alloc (by simp) _).alloc (by simp; omega) _
  generalize one01 ow = WR at *
  generalize one01 os = ST at *
  go_enter Tryz.func28, Tryz.ntmps28
  go_upto_region 1 with fail
  generalize ((w.alloc (.cells #[.int .i64 r0, .int .i64 r1, .int .i64 r2, .int .i64 r3, .int .i64 r4, .int .i64 r5, .int .i64 r6, .int .i64 r7, .int .i64 pc] 86)).alloc (.cells #[.slice none 0 0, .int .i64 od, .int .i64 oa, .int .i64 WR, .int .i64 ST, .int .i64 oe] 54)).alloc (.cells #[.slice none 0 0, .int .i64 0, .int .i64 0, .int .i64 0, .int .i64 0, .int .i64 0] 54) = y at *
  replace q0 : Rb y w.heap.size [r0, r1, r2, r3, r4, r5, r6, r7] pc := q0
  have h2 := h.below b0
  obtain ⟨aV, cV, eV⟩ := h.pv.2
  rw [eV] at HB
  have HV := Lib.hid eV
  clear h eV
  refine wp_region_put 12 13 86 #[.int .i64 0, .int .i64 0, .int .i64 0, .int .i64 0, .int .i64 0, .int .i64 0, .int .i64 0, .int .i64 0, .int .i64 0] (fun W b => put9 W b (.int .i64 s0) (.int .i64 s1) (.int .i64 s2) (.int .i64 s3) (.int .i64 s4) (.int .i64 s5) (.int .i64 s6) (.int .i64 s7) (.int .i64 PC)) (fun W b => Rb W b [s0, s1, s2, s3, s4, s5, s6, s7] PC) (fun vs => { tmps := #[.pointer (some ⟨Y.y, 0, none⟩), .int .i64 (t : Int), .agg #[.int .i64 r0, .int .i64 r1, .int .i64 r2, .int .i64 r3, .int .i64 r4, .int .i64 r5, .int .i64 r6, .int .i64 r7, .int .i64 pc], .agg #[.slice none 0 0, .int .i64 od, .int .i64 oa, .int .i64 WR, .int .i64 ST, .int .i64 oe], undef, undef, .pointer (some ⟨w.heap.size, 0, none⟩), .pointer (some ⟨w.heap.size + 1, 0, none⟩), .pointer (some ⟨w.heap.size + 1 + 1, 0, none⟩), vs 12, vs 14, vs 15, vs 16, vs 7, vs 0, vs 1, vs 2, vs 3, vs 4, vs 5, vs 6, vs 8, vs 9, vs 10, vs 11, undef, undef, undef, undef, undef, undef, undef, undef, undef, undef, undef, undef, undef, undef], defers := [] }) (mixT [(6, (TupR (.agg #[.int .i64 s0, .int .i64 s1, .int .i64 s2, .int .i64 s3, .int .i64 s4, .int .i64 s5, .int .i64 s6, .int .i64 s7, .int .i64 PC]) ms D E)), (7, (TupR (.agg #[.int .i64 s0, .int .i64 s1, .int .i64 s2, .int .i64 s3, .int .i64 s4, .int .i64 s5, .int .i64 s6, .int .i64 s7, .int .i64 PC]) ms D E)), (9, (fun v W => Lst .i64 3 W v ms)), (14, (fun v W => Lst .i64 3 W v ms))] [.agg #[.int .i64 r0, .int .i64 r1, .int .i64 r2, .int .i64 r3, .int .i64 r4, .int .i64 r5, .int .i64 r6, .int .i64 r7, .int .i64 pc], .pointer (some ⟨Y.y, 0, none⟩), .pointer (some ⟨Y.y, 0, none⟩), .pointer (some ⟨Y.y, 0, none⟩), .agg #[.slice aV k.l.length cV, .int .i64 k.lo, .int .i64 k.un], .int .i64 (t : Int), undef, undef, .agg #[.int .i64 s0, .int .i64 s1, .int .i64 s2, .int .i64 s3, .int .i64 s4, .int .i64 s5, .int .i64 s6, .int .i64 s7, .int .i64 PC], undef, .int .i64 D, .int .i64 E, undef, undef, undef, .int .i64 D, .int .i64 E]) ?ghm ?ghr ?ghns ?ghlen ?glit ?gst ?gst2 ?gd1 ?gbel ?gdn ?gnew ?gsto ?gops ?gdone
  case ghm => kernel_rfl
  case ghr => kernel_rfl
  case ghns => kernel_rfl
  case ghlen => rfl
  case glit => intro vs; rfl
  case gst => exact mixT_stable (by
    intro p hp
    simp only [List.mem_cons, List.not_mem_nil, or_false] at hp
    rcases hp with rfl | rfl | rfl | rfl
    · exact fun v W W2 h hb => TupR.below h hb
    · exact fun v W W2 h hb => TupR.below h hb
    · exact fun v W W2 h hb => lst_below h hb
    · exact fun v W W2 h hb => lst_below h hb)
  case gst2 =>
    have hk := mixT_keep (R := fun W W2 => ∃ b, Bk W b 86 #[.int .i64 0, .int .i64 0, .int .i64 0, .int .i64 0, .int .i64 0, .int .i64 0, .int .i64 0, .int .i64 0, .int .i64 0] ∧ W2 = put9 W b (.int .i64 s0) (.int .i64 s1) (.int .i64 s2) (.int .i64 s3) (.int .i64 s4) (.int .i64 s5) (.int .i64 s6) (.int .i64 s7) (.int .i64 PC)) (ps := [(6, (TupR (.agg #[.int .i64 s0, .int .i64 s1, .int .i64 s2, .int .i64 s3, .int .i64 s4, .int .i64 s5, .int .i64 s6, .int .i64 s7, .int .i64 PC]) ms D E)), (7, (TupR (.agg #[.int .i64 s0, .int .i64 s1, .int .i64 s2, .int .i64 s3, .int .i64 s4, .int .i64 s5, .int .i64 s6, .int .i64 s7, .int .i64 PC]) ms D E)), (9, (fun v W => Lst .i64 3 W v ms)), (14, (fun v W => Lst .i64 3 W v ms))]) (l := [.agg #[.int .i64 r0, .int .i64 r1, .int .i64 r2, .int .i64 r3, .int .i64 r4, .int .i64 r5, .int .i64 r6, .int .i64 r7, .int .i64 pc], .pointer (some ⟨Y.y, 0, none⟩), .pointer (some ⟨Y.y, 0, none⟩), .pointer (some ⟨Y.y, 0, none⟩), .agg #[.slice aV k.l.length cV, .int .i64 k.lo, .int .i64 k.un], .int .i64 (t : Int), undef, undef, .agg #[.int .i64 s0, .int .i64 s1, .int .i64 s2, .int .i64 s3, .int .i64 s4, .int .i64 s5, .int .i64 s6, .int .i64 s7, .int .i64 PC], undef, .int .i64 D, .int .i64 E, undef, undef, undef, .int .i64 D, .int .i64 E]) (by
      intro p hp
      simp only [List.mem_cons, List.not_mem_nil, or_false] at hp
      rcases hp with rfl | rfl | rfl | rfl
      · rintro v W W2 ⟨m5, e5, h5⟩ ⟨b, hk, rfl⟩; exact ⟨m5, e5, lst_put9 h5 hk (by decide) (.int .i64 s0) (.int .i64 s1) (.int .i64 s2) (.int .i64 s3) (.int .i64 s4) (.int .i64 s5) (.int .i64 s6) (.int .i64 s7) (.int .i64 PC)⟩
      · rintro v W W2 ⟨m5, e5, h5⟩ ⟨b, hk, rfl⟩; exact ⟨m5, e5, lst_put9 h5 hk (by decide) (.int .i64 s0) (.int .i64 s1) (.int .i64 s2) (.int .i64 s3) (.int .i64 s4) (.int .i64 s5) (.int .i64 s6) (.int .i64 s7) (.int .i64 PC)⟩
      · rintro v W W2 h ⟨b, hk, rfl⟩; exact lst_put9 h hk (by decide) (.int .i64 s0) (.int .i64 s1) (.int .i64 s2) (.int .i64 s3) (.int .i64 s4) (.int .i64 s5) (.int .i64 s6) (.int .i64 s7) (.int .i64 PC)
      · rintro v W W2 h ⟨b, hk, rfl⟩; exact lst_put9 h hk (by decide) (.int .i64 s0) (.int .i64 s1) (.int .i64 s2) (.int .i64 s3) (.int .i64 s4) (.int .i64 s5) (.int .i64 s6) (.int .i64 s7) (.int .i64 PC))
    exact fun i v W b h hb => hk i v W _ h ⟨b, hb, rfl⟩
  case gd1 => exact fun W W2 b h hb => Rb.below h hb
  case gbel => exact fun W b hb h => put9_below h hb (.int .i64 s0) (.int .i64 s1) (.int .i64 s2) (.int .i64 s3) (.int .i64 s4) (.int .i64 s5) (.int .i64 s6) (.int .i64 s7) (.int .i64 PC)
  case gdn => exact fun W b h => put9_bk h (.int .i64 s0) (.int .i64 s1) (.int .i64 s2) (.int .i64 s3) (.int .i64 s4) (.int .i64 s5) (.int .i64 s6) (.int .i64 s7) (.int .i64 PC)
  case gnew =>
    intro o ho vs W hW
    injection ho with ho
    subst ho
    refine leaves_free rfl ?_
    go_simp
    exact ⟨⟨W.heap.size, rfl, hW.size, Rb.made W [0, 0, 0, 0, 0, 0, 0, 0] 0⟩, (Below.refl _ _).alloc (Nat.le_refl _) _⟩
  case gsto =>
    intro o ho vs W b hW hd hb hk
    injection ho with ho
    subst ho
    have ev : vs 8 = .agg #[.int .i64 s0, .int .i64 s1, .int .i64 s2, .int .i64 s3, .int .i64 s4, .int .i64 s5, .int .i64 s6, .int .i64 s7, .int .i64 PC] := hd 8 (by decide) rfl
    have zf := Bk.free hk
    obtain ⟨z0, z1, z2, z3, z4, z5, z6, z7, z8⟩ := Rb.cells hk
    refine leavesIf_free rfl ?_
    clear hd
    go_simp
    rfl
  case gops =>
    refine ⟨?_, ?_, ?_, ?_, ?_, ?_, ?_, ?_, ?_, ?_, ?_, ?_, ?_, ?_, ?_, ?_, ?_, trivial⟩
    · intro _ vs W hW hd
      refine leaves_free rfl ?_
      have hq := h2.below hW; have c0x := hq.c0; rw [HV.out] at c0x; have c1x := hq.c1; have c2x := hq.c2; obtain ⟨c0, c1, c2, c3, c4, c5, c6, c7, c8⟩ := (Rb.below q0 hW).cells; clear hq
      go_simp
      exact ⟨rfl, Below.refl _ _⟩
    · intro _ vs W hW hd
      refine leaves_free rfl ?_
      go_simp
      exact ⟨rfl, Below.refl _ _⟩
    · intro _ vs W hW hd
      refine leaves_free rfl ?_
      have e1 : vs 1 = .pointer (some ⟨Y.y, 0, none⟩) := hd 1 (by decide) rfl
      go_simp
      exact ⟨rfl, Below.refl _ _⟩
    · intro _ vs W hW hd
      refine leaves_free rfl ?_
      have e2 : vs 2 = .pointer (some ⟨Y.y, 0, none⟩) := hd 2 (by decide) rfl
      go_simp
      exact ⟨rfl, Below.refl _ _⟩
    · intro _ vs W hW hd
      refine leaves_free rfl ?_
      have e3 : vs 3 = .pointer (some ⟨Y.y, 0, none⟩) := hd 3 (by decide) rfl
      have hq := h2.below hW; have c0x := hq.c0; rw [HV.out] at c0x; have c1x := hq.c1; have c2x := hq.c2; obtain ⟨c0, c1, c2, c3, c4, c5, c6, c7, c8⟩ := (Rb.below q0 hW).cells; clear hq
      go_simp
      exact ⟨rfl, Below.refl _ _⟩
    · intro _ vs W hW hd
      refine leaves_free rfl ?_
      go_simp
      exact ⟨rfl, Below.refl _ _⟩
    · intro _ vs W hW hd
      refine leaves_free rfl ?_
      have e0 : vs 0 = .agg #[.int .i64 r0, .int .i64 r1, .int .i64 r2, .int .i64 r3, .int .i64 r4, .int .i64 r5, .int .i64 r6, .int .i64 r7, .int .i64 pc] := hd 0 (by decide) rfl
      have e4 : vs 4 = .agg #[.slice aV k.l.length cV, .int .i64 k.lo, .int .i64 k.un] := hd 4 (by decide) rfl
      have e5 : vs 5 = .int .i64 (t : Int) := hd 5 (by decide) rfl
      have HS := Lib.hid (HB.out W (h2.below hW))
      clear hd
      go_simp
      refine HS.out.mono ?_
      rintro e z ⟨m5, he, hm5, hz⟩
      exact ⟨_, he, ⟨m5, rfl, hm5⟩, hz⟩
    · intro _ vs W hW hd
      refine leaves_free rfl ?_
      obtain ⟨m5, e6, hm5⟩ : TupR (.agg #[.int .i64 s0, .int .i64 s1, .int .i64 s2, .int .i64 s3, .int .i64 s4, .int .i64 s5, .int .i64 s6, .int .i64 s7, .int .i64 PC]) ms D E (vs 6) W := hd 6 (by decide) rfl
      clear hd
      go_simp
      exact ⟨⟨m5, rfl, hm5⟩, Below.refl _ _⟩
    · intro _ vs W hW hd
      refine leaves_free rfl ?_
      obtain ⟨m5, e7, hm5⟩ : TupR (.agg #[.int .i64 s0, .int .i64 s1, .int .i64 s2, .int .i64 s3, .int .i64 s4, .int .i64 s5, .int .i64 s6, .int .i64 s7, .int .i64 PC]) ms D E (vs 7) W := hd 7 (by decide) rfl
      clear hd
      go_simp
      exact ⟨rfl, Below.refl _ _⟩
    · intro _ vs W hW hd
      refine leaves_free rfl ?_
      obtain ⟨m5, e7, hm5⟩ : TupR (.agg #[.int .i64 s0, .int .i64 s1, .int .i64 s2, .int .i64 s3, .int .i64 s4, .int .i64 s5, .int .i64 s6, .int .i64 s7, .int .i64 PC]) ms D E (vs 7) W := hd 7 (by decide) rfl
      clear hd
      go_simp
      exact ⟨hm5, Below.refl _ _⟩
    · intro _ vs W hW hd
      refine leaves_free rfl ?_
      obtain ⟨m5, e7, hm5⟩ : TupR (.agg #[.int .i64 s0, .int .i64 s1, .int .i64 s2, .int .i64 s3, .int .i64 s4, .int .i64 s5, .int .i64 s6, .int .i64 s7, .int .i64 PC]) ms D E (vs 7) W := hd 7 (by decide) rfl
      clear hd
      go_simp
      exact ⟨rfl, Below.refl _ _⟩
    · intro _ vs W hW hd
      refine leaves_free rfl ?_
      obtain ⟨m5, e7, hm5⟩ : TupR (.agg #[.int .i64 s0, .int .i64 s1, .int .i64 s2, .int .i64 s3, .int .i64 s4, .int .i64 s5, .int .i64 s6, .int .i64 s7, .int .i64 PC]) ms D E (vs 7) W := hd 7 (by decide) rfl
      clear hd
      go_simp
      exact ⟨rfl, Below.refl _ _⟩
    · exact fun h => absurd h (by decide)
    · exact fun h => absurd h (by decide)
    · intro _ vs W hW hd
      refine leaves_free rfl ?_
      have h8 : Lst .i64 3 W (vs 9) ms := hd 9 (by decide) rfl
      clear hd
      go_simp
      exact ⟨h8, Below.refl _ _⟩
    · intro _ vs W hW hd
      refine leaves_free rfl ?_
      have e10 : vs 10 = .int .i64 D := hd 10 (by decide) rfl
      go_simp
      exact ⟨rfl, Below.refl _ _⟩
    · intro _ vs W hW hd
      refine leaves_free rfl ?_
      have e11 : vs 11 = .int .i64 E := hd 11 (by decide) rfl
      go_simp
      exact ⟨rfl, Below.refl _ _⟩
  case gdone =>
    intro vs W b hW hf hgv hgb pb
    have f0 : vs 0 = .agg #[.int .i64 r0, .int .i64 r1, .int .i64 r2, .int .i64 r3, .int .i64 r4, .int .i64 r5, .int .i64 r6, .int .i64 r7, .int .i64 pc] := hf 0 (by decide) rfl
    have f1 : vs 1 = .pointer (some ⟨Y.y, 0, none⟩) := hf 1 (by decide) rfl
    have f2 : vs 2 = .pointer (some ⟨Y.y, 0, none⟩) := hf 2 (by decide) rfl
    have f3 : vs 3 = .pointer (some ⟨Y.y, 0, none⟩) := hf 3 (by decide) rfl
    have f4 : vs 4 = .agg #[.slice aV k.l.length cV, .int .i64 k.lo, .int .i64 k.un] := hf 4 (by decide) rfl
    have f5 : vs 5 = .int .i64 (t : Int) := hf 5 (by decide) rfl
    have f8 : vs 8 = .agg #[.int .i64 s0, .int .i64 s1, .int .i64 s2, .int .i64 s3, .int .i64 s4, .int .i64 s5, .int .i64 s6, .int .i64 s7, .int .i64 PC] := hf 8 (by decide) rfl
    have f10 : vs 10 = .int .i64 D := hf 10 (by decide) rfl
    have f11 : vs 11 = .int .i64 E := hf 11 (by decide) rfl
    have f15 : vs 15 = .int .i64 D := hf 15 (by decide) rfl
    have f16 : vs 16 = .int .i64 E := hf 16 (by decide) rfl
    simp only [f0, f1, f2, f3, f4, f5, f8, f10, f11, f15, f16]
    have hm2 : Lst .i64 3 W (vs 14) ms := hf 14 (by decide) rfl
    simp only [hgv]
    clear hf hgv f0 f1 f2 f3 f4 f5 f8 f10 f11 f15 f16
    generalize vs 14 = m2 at *
    generalize vs 6 = w6 at *
    generalize vs 7 = w7 at *
    generalize vs 9 = w9 at *
    have h3 := h2.below hW
    replace q1 := (hW.block _ q1.lt).trans q1
    replace q2 := (hW.block _ q2.lt).trans q2
    replace b0 := b0.trans (hW.mono b0.size)
    clear h2 q0 hW hgb
    obtain ⟨gk, capk, ek, hk1, hk2, hkb, hkf, -⟩ := h3.klIs
    have cx6 := h3.c6
    rw [ek] at cx6
    obtain ⟨u0, u1, u2, u3, u4, u5, u6, u7, pcu, ecu⟩ := h3.core_cons ht
    obtain ⟨c0, c1, c2, c3, c4, c5, c6, c7, c8⟩ := h3.core ht ecu ek
    obtain ⟨d0, d1, d2, d3, d4, d5, d6, d7, d8⟩ := pb.cells
    unfold maxLen at hk2
    go_upto_region 2 with fail
    go_region
    obtain ⟨h4, st4⟩ := h3.put ht (c := ⟨[s0, s1, s2, s3, s4, s5, s6, s7], PC⟩) HE8.out ek
    have hw4 : Within W (putW W gk (t * 9) (rorC [s0, s1, s2, s3, s4, s5, s6, s7] PC)) (fun i => i = gk) := .of_grown (putW_only _ _ _) (by rintro i e; injection e with e; exact .inl e.symm)
    have hgl : gk < w.heap.size := HX.out.lt (.inr (.inr (.inr (.inr (.inr (.inl hkb))))))
    have p1 := Bk.within q1 hw4 (by omega)
    have p2 := Bk.within q2 hw4 (by omega)
    have l4 := lst_within hm2 hw4 (by rintro b' rfl; obtain ⟨cs0, hb0⟩ := own_bk h3.cores hkb; exact ⟨_, _, hb0, by decide⟩)
    have st5 := (YStays.of_grown (n := k.n) (Y := Y) b0).then_ st4
    generalize hv4 : (((((((((W.setCell ⟨gk, (t * 9), none⟩ (.int .i64 s0)).setCell ⟨gk, (t * 9) + 1, none⟩ (.int .i64 s1)).setCell ⟨gk, (t * 9) + 2, none⟩ (.int .i64 s2)).setCell ⟨gk, (t * 9) + 3, none⟩ (.int .i64 s3)).setCell ⟨gk, (t * 9) + 4, none⟩ (.int .i64 s4)).setCell ⟨gk, (t * 9) + 5, none⟩ (.int .i64 s5)).setCell ⟨gk, (t * 9) + 6, none⟩ (.int .i64 s6)).setCell ⟨gk, (t * 9) + 7, none⟩ (.int .i64 s7)).setCell ⟨gk, (t * 9) + 8, none⟩ (.int .i64 PC)) = v4
    replace hv4 : putW W gk (t * 9) (rorC [s0, s1, s2, s3, s4, s5, s6, s7] PC) = v4 := hv4
    rw [hv4] at h4 p1 p2 l4 st5
    clear hv4 hw4 h3 q1 q2 hm2 b0 st4 c0 c1 c2 c3 c4 c5 c6 c7 c8 d0 d1 d2 d3 d4 d5 d6 d7 d8 hkf pb cx6 hgl
    replace h4 := h4.below (Below.refl _ v4).drew
    replace p1 : Bk v4.drew _ _ _ := p1
    replace p2 : Bk v4.drew _ _ _ := p2
    replace l4 : Lst .i64 3 v4.drew m2 ms := l4
    replace st5 := st5.grown (Below.refl _ v4).drew
    generalize v4.drew = v5 at *
    obtain ⟨a9, c9, e9, -⟩ := l4.is
    subst e9
    have hOwn : ∀ i, Y.Own k.n i → i < w.heap.size := fun i hi => HX.out.lt hi
    have hw5 : Within v5 (((v5.setCell ⟨w.heap.size + 1, 0, none⟩ (.slice a9 ms.length c9)).setCell ⟨w.heap.size + 1, 1, none⟩ (.int .i64 D)).setCell ⟨w.heap.size + 1, 5, none⟩ (.int .i64 E)) (fun i => i = w.heap.size + 1) := (((Within.refl v5 (fun i => i = w.heap.size + 1)).put _ 0 _ (.inl rfl)).put _ 1 _ (.inl rfl)).put _ 5 _ (.inl rfl)
    have p1' : Bk (((v5.setCell ⟨w.heap.size + 1, 0, none⟩ (.slice a9 ms.length c9)).setCell ⟨w.heap.size + 1, 1, none⟩ (.int .i64 D)).setCell ⟨w.heap.size + 1, 5, none⟩ (.int .i64 E)) (w.heap.size + 1) 54 #[.slice a9 ms.length c9, .int .i64 D, .int .i64 oa, .int .i64 WR, .int .i64 ST, .int .i64 E] := ((p1.put 0 (.slice a9 ms.length c9)).put 1 (.int .i64 D)).put 5 (.int .i64 E)
    have p2' := p2.within hw5 (by omega)
    have h6 := h4.kept hw5 (fun i hi e => by have := hOwn i hi; omega)
    have st6 := st5.far' hw5 (fun i e => by omega)
    have l6 := lst_within l4 hw5 (by rintro b' rfl; exact ⟨_, _, p1, by decide⟩)
    obtain ⟨y0, y1, y2, y3, y4, y5⟩ : v5.cell? ⟨w.heap.size + 1, 0, none⟩ = some (.slice none 0 0) ∧ v5.cell? ⟨w.heap.size + 1, 1, none⟩ = some (.int .i64 od) ∧ v5.cell? ⟨w.heap.size + 1, 2, none⟩ = some (.int .i64 oa) ∧ v5.cell? ⟨w.heap.size + 1, 3, none⟩ = some (.int .i64 WR) ∧ v5.cell? ⟨w.heap.size + 1, 4, none⟩ = some (.int .i64 ST) ∧ v5.cell? ⟨w.heap.size + 1, 5, none⟩ = some (.int .i64 oe) := ⟨p1.cell 0, p1.cell 1, p1.cell 2, p1.cell 3, p1.cell 4, p1.cell 5⟩
    have zf := Bk.free p1
    go_upto_region 4 with fail
    generalize ((v5.setCell ⟨w.heap.size + 1, 0, none⟩ (.slice a9 ms.length c9)).setCell ⟨w.heap.size + 1, 1, none⟩ (.int .i64 D)).setCell ⟨w.heap.size + 1, 5, none⟩ (.int .i64 E) = v6 at *
    clear y0 y1 y2 y3 y4 y5 zf hw5 p1 p2 h4 st5 l4
    obtain ⟨y0, y1, y2, y3, y4, y5⟩ : v6.cell? ⟨w.heap.size + 1, 0, none⟩ = some (.slice a9 ms.length c9) ∧ v6.cell? ⟨w.heap.size + 1, 1, none⟩ = some (.int .i64 D) ∧ v6.cell? ⟨w.heap.size + 1, 2, none⟩ = some (.int .i64 oa) ∧ v6.cell? ⟨w.heap.size + 1, 3, none⟩ = some (.int .i64 WR) ∧ v6.cell? ⟨w.heap.size + 1, 4, none⟩ = some (.int .i64 ST) ∧ v6.cell? ⟨w.heap.size + 1, 5, none⟩ = some (.int .i64 E) := ⟨p1'.cell 0, p1'.cell 1, p1'.cell 2, p1'.cell 3, p1'.cell 4, p1'.cell 5⟩
    obtain ⟨x0, x1, x2, x3, x4, x5⟩ : v6.cell? ⟨w.heap.size + 1 + 1, 0, none⟩ = some (.slice none 0 0) ∧ v6.cell? ⟨w.heap.size + 1 + 1, 1, none⟩ = some (.int .i64 0) ∧ v6.cell? ⟨w.heap.size + 1 + 1, 2, none⟩ = some (.int .i64 0) ∧ v6.cell? ⟨w.heap.size + 1 + 1, 3, none⟩ = some (.int .i64 0) ∧ v6.cell? ⟨w.heap.size + 1 + 1, 4, none⟩ = some (.int .i64 0) ∧ v6.cell? ⟨w.heap.size + 1 + 1, 5, none⟩ = some (.int .i64 0) := ⟨p2'.cell 0, p2'.cell 1, p2'.cell 2, p2'.cell 3, p2'.cell 4, p2'.cell 5⟩
    have zf := Bk.free p2'
    have o1 := put6_bk p2' (.slice a9 ms.length c9) (.int .i64 D) (.int .i64 oa) (.int .i64 WR) (.int .i64 ST) (.int .i64 E)
    have o2 := put6_within (y := v6) (g := w.heap.size + 1 + 1) (.slice a9 ms.length c9) (.int .i64 D) (.int .i64 oa) (.int .i64 WR) (.int .i64 ST) (.int .i64 E)
    have l7 := lst_within l6 o2 (by rintro b' rfl; exact ⟨_, _, p2', by decide⟩)
    have h7 := h6.kept o2 (fun i hi e => by have := hOwn i hi; omega)
    have st7 := st6.far' o2 (fun i e => by omega)
    clear h6 st6 l6
    go_wp2
    generalize hv9 : ((((((v6.setCell ⟨w.heap.size + 1 + 1, 0, none⟩ (.slice a9 ms.length c9)).setCell ⟨w.heap.size + 1 + 1, 1, none⟩ (.int .i64 D)).setCell ⟨w.heap.size + 1 + 1, 2, none⟩ (.int .i64 oa)).setCell ⟨w.heap.size + 1 + 1, 3, none⟩ (.int .i64 WR)).setCell ⟨w.heap.size + 1 + 1, 4, none⟩ (.int .i64 ST)).setCell ⟨w.heap.size + 1 + 1, 5, none⟩ (.int .i64 E)) = v9
    replace hv9 : put6 v6 (w.heap.size + 1 + 1) (.slice a9 ms.length c9) (.int .i64 D) (.int .i64 oa) (.int .i64 WR) (.int .i64 ST) (.int .i64 E) = v9 := hv9
    rw [hv9] at o1 l7 h7 st7
    clear hv9 o2 p1' p2' y0 y1 y2 y3 y4 y5 x0 x1 x2 x3 x4 x5 zf
    obtain ⟨o0, o1, o2, o3, o4, o5⟩ : v9.cell? ⟨w.heap.size + 1 + 1, 0, none⟩ = some (.slice a9 ms.length c9) ∧ v9.cell? ⟨w.heap.size + 1 + 1, 1, none⟩ = some (.int .i64 D) ∧ v9.cell? ⟨w.heap.size + 1 + 1, 2, none⟩ = some (.int .i64 oa) ∧ v9.cell? ⟨w.heap.size + 1 + 1, 3, none⟩ = some (.int .i64 WR) ∧ v9.cell? ⟨w.heap.size + 1 + 1, 4, none⟩ = some (.int .i64 ST) ∧ v9.cell? ⟨w.heap.size + 1 + 1, 5, none⟩ = some (.int .i64 E) := ⟨o1.cell 0, o1.cell 1, o1.cell 2, o1.cell 3, o1.cell 4, o1.cell 5⟩
    exact bodyPost_ret (v := .agg #[.slice a9 ms.length c9, .int .i64 D, .int .i64 oa, .int .i64 WR, .int .i64 ST, .int .i64 E]) (by simp [results, Tryz.results28, go_sem, o0, o1, o2, o3, o4, o5]) rfl ⟨.slice a9 ms.length c9, Y, (by rw [HOT.out]), l7, h7, st7⟩
end
end Go.Proofs.YtpinpipjlongaaaGreat

/- The document's Begin. -/
namespace Go.Proofs.YtpinpipjlongaaaGreat
set_option maxRecDepth 100000
open Go.ChangeShapes Go.WideShapes Go.ChangeAt Go.RowKit
set_option linter.unusedVariables false

section
variable {w w' : World} {Y : YP} {k : Lk} {m : Mc}
theorem CameY.mono {k : Lk} {v0 v1 : World} {Y0 Y1 : YP} {r : Mc × Ot} {e : Ending} {w' : World} (h : CameY v1 Y1 k r e w') (s : YStays v0 k.n Y0 v1 Y1) : CameY v0 Y0 k r e w' := by
  obtain ⟨v, Y', h1, h2, h3, h4⟩ := h
  exact ⟨v, Y', h1, h2, h3, s.then_ h4⟩
/-- The result laid into the block of its own, and returned. -/
theorem came_laid {q : Nat} {t : TypeId} {cs : Array Value} {v : Value} {r : Mc × Ot} {Y' : YP} {W W' : World} (hl : Lst .i64 3 W v r.2.ms) (h : Ey W Y' k r.1) (s : YStays w k.n Y W Y') (hq : Bk W q t cs) (ht : t ≠ 3) (hw : Within W W' (fun i => i = q)) (hn : w.heap.size ≤ q) (hfar : ∀ i, Y'.Own k.n i → i ≠ q) :
    CameY w Y k r (.returned (otR v r.2)) W' :=
  ⟨v, Y', rfl, lst_within hl hw (by rintro b' rfl; exact ⟨_, _, hq, ht⟩), h.kept hw (fun i hi e => hfar i hi e), s.far' hw (fun i e => by omega)⟩

set_option maxHeartbeats 2000000 in
theorem yBegin (h : Ey w Y k m) (t : Nat) (ht : t < k.n) (un : Bool) :
    Calls Tryz.prog 11 #[.pointer (some ⟨Y.y, 0, none⟩), .int .i64 t, .int .i64 (one01 un)] w (CameY w Y k (beginM k m t un)) := by
  have hnn := h.lk.n64
  obtain ⟨r0, r1, r2, r3, r4, r5, r6, r7, pc, ec⟩ := h.core_cons ht
  have hc8 : Eight [r0, r1, r2, r3, r4, r5, r6, r7] := by have := h.mc.cs t ht; rw [ec] at this; exact this
  have HRun : Hid (∀ W, Ey W Y k m → Calls Tryz.prog 28 #[.pointer (some ⟨Y.y, 0, none⟩), .int .i64 t, .agg #[.int .i64 r0, .int .i64 r1, .int .i64 r2, .int .i64 r3, .int .i64 r4, .int .i64 r5, .int .i64 r6, .int .i64 r7, .int .i64 (if un then k.un else k.lo)], .agg #[.slice none 0 0, .int .i64 0, .int .i64 (-1), .int .i64 0, .int .i64 0, .int .i64 0]] W (CameY W Y k (beginM k m t un))) := Lib.hid fun W hW => by
    have := yRun hW t ht ⟨[r0, r1, r2, r3, r4, r5, r6, r7], if un then k.un else k.lo⟩ hc8 ⟨[], 0, -1, false, false, 0⟩ _ rfl
    unfold beginM
    rw [ec]
    exact this
  obtain ⟨BB, hBB⟩ : ∃ B, B = beginM k m t un := ⟨_, rfl⟩
  rw [← hBB] at HRun ⊢
  clear hBB
  have HX := Lib.hid h
  have q0 := Bk.made w 54 #[.slice none 0 0, .int .i64 0, .int .i64 0, .int .i64 0, .int .i64 0, .int .i64 0]
  have b0 : Below w.heap.size w (w.alloc (.cells #[.slice none 0 0, .int .i64 0, .int .i64 0, .int .i64 0, .int .i64 0, .int .i64 0] 54)) := (Below.refl _ _).alloc (Nat.le_refl _) _
  have s0 : (w.alloc (.cells #[.slice none 0 0, .int .i64 0, .int .i64 0, .int .i64 0, .int .i64 0, .int .i64 0] 54)).heap.size = w.heap.size + 1 := by simp
  go_enter Tryz.func11, Tryz.ntmps11
  go_upto_region 1 with fail
  generalize w.alloc (.cells #[.slice none 0 0, .int .i64 0, .int .i64 0, .int .i64 0, .int .i64 0, .int .i64 0] 54) = y at *
  have h2 := h.below b0
  obtain ⟨gk, capk, ek, hk1, hk2, hkb, hkf, -⟩ := h2.klIs
  unfold maxLen at hk2
  have cx6 := h2.c6
  rw [ek] at cx6
  obtain ⟨c0, c1, c2, c3, c4, c5, c6, c7, c8⟩ := h2.core ht ec ek
  go_upto_region 2 with fail
  have q1 := Rb.made y [r0, r1, r2, r3, r4, r5, r6, r7] pc
  rw [s0] at q1
  simp only [rorC, List.map_cons, List.map_nil, List.cons_append, List.nil_append] at q1
  have b1 : Below y.heap.size y (y.alloc (.cells #[.int .i64 r0, .int .i64 r1, .int .i64 r2, .int .i64 r3, .int .i64 r4, .int .i64 r5, .int .i64 r6, .int .i64 r7, .int .i64 pc] 86)) := (Below.refl _ _).alloc (Nat.le_refl _) _
  replace q0 := (b1.block _ q0.lt).trans q0
  have h3 := h2.below b1
  replace b0 := b0.trans (b1.mono b0.size)
  have HS0 := Lib.hid s0
  clear c0 c1 c2 c3 c4 c5 c6 c7 c8 cx6 h2 b1 hkf s0 h
  generalize y.alloc (.cells #[.int .i64 r0, .int .i64 r1, .int .i64 r2, .int .i64 r3, .int .i64 r4, .int .i64 r5, .int .i64 r6, .int .i64 r7, .int .i64 pc] 86) = z at *
  have hOwn : Hid (∀ i, Y.Own k.n i → i < w.heap.size) := Lib.hid fun i hi => HX.out.lt hi
  have k1 := h3.c1
  have k2 := h3.c2
  obtain ⟨c0, c1, c2, c3, c4, c5, c6, c7, c8⟩ := Rb.cells q1
  have zf := Bk.free q1
  have ne1 : Y.y ≠ w.heap.size + 1 := by have := hOwn.out _ (.inl rfl); omega
  have q2 : Rb (z.setCell ⟨w.heap.size + 1, 8, none⟩ (.int .i64 k.lo)) (w.heap.size + 1) [r0, r1, r2, r3, r4, r5, r6, r7] k.lo := Rb.setpc q1 rfl k.lo
  have hw1 : Within z (z.setCell ⟨w.heap.size + 1, 8, none⟩ (.int .i64 k.lo)) (fun i => i = w.heap.size + 1) := (Within.refl z (fun i => i = w.heap.size + 1)).put _ _ _ (.inl rfl)
  have h4 := h3.kept hw1 (fun i hi e => by have := hOwn.out i hi; omega)
  have q02 := Bk.within q0 hw1 (by omega)
  have b2 := b0.setCell (p := ⟨w.heap.size + 1, 8, none⟩) (by show w.heap.size ≤ w.heap.size + 1; omega) (.int .i64 k.lo)
  cases un with
  | false =>
    simp only [Bool.false_eq_true, if_false] at HRun
    unfold one01
    simp only [Bool.false_eq_true, if_false]
    go_upto_region 5 with fail
    clear c0 c1 c2 c3 c4 c5 c6 c7 c8 zf k1 k2 h3 q0 b0 q1 hw1
    generalize z.setCell ⟨w.heap.size + 1, 8, none⟩ (.int .i64 k.lo) = v at *
    obtain ⟨c0, c1, c2, c3, c4, c5, c6, c7, c8⟩ := Rb.cells q2
    have hR := HRun.out v h4
    have st := YStays.of_grown (n := k.n) (Y := Y) b2
    have hf0 : ∀ i, Y.Own k.n i → i ≠ w.heap.size := fun i hi e => by have := hOwn.out _ hi; omega
    have hlt : w.heap.size < v.heap.size := by have := Bk.lt q2; omega
    go_wp2_with fail
    refine hR.mono ?_
    rintro e v5 ⟨mv, Y', rfl, hl5, h5, hs5⟩
    obtain ⟨a9, c9, e9, -⟩ := hl5.is
    subst e9
    have q5 := Bk.within q02 hs5.1 (fun e => hf0 _ e rfl)
    have st5 := st.then_ hs5
    have hfar : ∀ i, Y'.Own k.n i → i ≠ w.heap.size := fun i hi e => by
      rcases hs5.2.1 i hi with e2 | e2
      · exact hf0 i e2 e
      · omega
    unfold otR
    obtain ⟨x0, x1, x2, x3, x4, x5⟩ : v5.cell? ⟨w.heap.size, 0, none⟩ = some (.slice none 0 0) ∧ v5.cell? ⟨w.heap.size, 1, none⟩ = some (.int .i64 0) ∧ v5.cell? ⟨w.heap.size, 2, none⟩ = some (.int .i64 0) ∧ v5.cell? ⟨w.heap.size, 3, none⟩ = some (.int .i64 0) ∧ v5.cell? ⟨w.heap.size, 4, none⟩ = some (.int .i64 0) ∧ v5.cell? ⟨w.heap.size, 5, none⟩ = some (.int .i64 0) := ⟨q5.cell 0, q5.cell 1, q5.cell 2, q5.cell 3, q5.cell 4, q5.cell 5⟩
    have zf := Bk.free q5
    have o1 := put6_bk q5 (.slice a9 BB.2.ms.length c9) (.int .i64 BB.2.done) (.int .i64 BB.2.addr) (.int .i64 (one01 BB.2.wrote)) (.int .i64 (one01 BB.2.stay)) (.int .i64 BB.2.e)
    have o2 := put6_within (y := v5) (g := w.heap.size) (.slice a9 BB.2.ms.length c9) (.int .i64 BB.2.done) (.int .i64 BB.2.addr) (.int .i64 (one01 BB.2.wrote)) (.int .i64 (one01 BB.2.stay)) (.int .i64 BB.2.e)
    have hC := Lib.hid (came_laid (Y := Y) (r := BB) hl5 h5 st5 q5 (by decide) o2 (Nat.le_refl _) hfar)
    clear q02 hl5 h5 hs5 st5 st o2 hR q2 c0 c1 c2 c3 c4 c5 c6 c7 c8 h4 HRun
    go_wp2_with (refine bodyPost_ret (v := .agg #[.slice a9 BB.2.ms.length c9, .int .i64 BB.2.done, .int .i64 BB.2.addr, .int .i64 (one01 BB.2.wrote), .int .i64 (one01 BB.2.stay), .int .i64 BB.2.e]) (w := put6 v5 w.heap.size (.slice a9 BB.2.ms.length c9) (.int .i64 BB.2.done) (.int .i64 BB.2.addr) (.int .i64 (one01 BB.2.wrote)) (.int .i64 (one01 BB.2.stay)) (.int .i64 BB.2.e)) ?hres rfl ?hpost)
    case hpost => exact hC.out
    case hres =>
      generalize put6 v5 w.heap.size (.slice a9 BB.2.ms.length c9) (.int .i64 BB.2.done) (.int .i64 BB.2.addr) (.int .i64 (one01 BB.2.wrote)) (.int .i64 (one01 BB.2.stay)) (.int .i64 BB.2.e) = v9 at *
      obtain ⟨o0, o1, o2, o3, o4, o5⟩ : v9.cell? ⟨w.heap.size, 0, none⟩ = some (.slice a9 BB.2.ms.length c9) ∧ v9.cell? ⟨w.heap.size, 1, none⟩ = some (.int .i64 BB.2.done) ∧ v9.cell? ⟨w.heap.size, 2, none⟩ = some (.int .i64 BB.2.addr) ∧ v9.cell? ⟨w.heap.size, 3, none⟩ = some (.int .i64 (one01 BB.2.wrote)) ∧ v9.cell? ⟨w.heap.size, 4, none⟩ = some (.int .i64 (one01 BB.2.stay)) ∧ v9.cell? ⟨w.heap.size, 5, none⟩ = some (.int .i64 BB.2.e) := ⟨o1.cell 0, o1.cell 1, o1.cell 2, o1.cell 3, o1.cell 4, o1.cell 5⟩
      simp [results, Tryz.results11, go_sem, o0, o1, o2, o3, o4, o5]
  | true =>
    simp only [if_true] at HRun
    unfold one01
    simp only [if_true]
    have zf2 := Bk.free q2
    go_upto_region 4 with fail
    clear c0 c1 c2 c3 c4 c5 c6 c7 c8 zf k1 k2 h3 q0 b0 q1 hw1
    generalize z.setCell ⟨w.heap.size + 1, 8, none⟩ (.int .i64 k.lo) = z2 at *
    have k2 := h4.c2
    obtain ⟨c0, c1, c2, c3, c4, c5, c6, c7, c8⟩ := Rb.cells q2
    have q3 : Rb (z2.setCell ⟨w.heap.size + 1, 8, none⟩ (.int .i64 k.un)) (w.heap.size + 1) [r0, r1, r2, r3, r4, r5, r6, r7] k.un := Rb.setpc q2 rfl k.un
    have hw1 : Within z2 (z2.setCell ⟨w.heap.size + 1, 8, none⟩ (.int .i64 k.un)) (fun i => i = w.heap.size + 1) := (Within.refl z2 (fun i => i = w.heap.size + 1)).put _ _ _ (.inl rfl)
    have h5 := h4.kept hw1 (fun i hi e => by have := hOwn.out i hi; omega)
    replace q02 := Bk.within q02 hw1 (by omega)
    replace b2 := b2.setCell (p := ⟨w.heap.size + 1, 8, none⟩) (by show w.heap.size ≤ w.heap.size + 1; omega) (.int .i64 k.un)
    go_upto_region 5 with fail
    clear c0 c1 c2 c3 c4 c5 c6 c7 c8 zf2 k2 h4 q2 hw1
    generalize z2.setCell ⟨w.heap.size + 1, 8, none⟩ (.int .i64 k.un) = v at *
    obtain ⟨c0, c1, c2, c3, c4, c5, c6, c7, c8⟩ := Rb.cells q3
    have hR := HRun.out v h5
    have st := YStays.of_grown (n := k.n) (Y := Y) b2
    have hf0 : ∀ i, Y.Own k.n i → i ≠ w.heap.size := fun i hi e => by have := hOwn.out _ hi; omega
    have hlt : w.heap.size < v.heap.size := by have := Bk.lt q3; omega
    have h4 := h5
    have q2 := q3
    clear h5 q3
    go_wp2_with fail
    refine hR.mono ?_
    rintro e v5 ⟨mv, Y', rfl, hl5, h5, hs5⟩
    obtain ⟨a9, c9, e9, -⟩ := hl5.is
    subst e9
    have q5 := Bk.within q02 hs5.1 (fun e => hf0 _ e rfl)
    have st5 := st.then_ hs5
    have hfar : ∀ i, Y'.Own k.n i → i ≠ w.heap.size := fun i hi e => by
      rcases hs5.2.1 i hi with e2 | e2
      · exact hf0 i e2 e
      · omega
    unfold otR
    obtain ⟨x0, x1, x2, x3, x4, x5⟩ : v5.cell? ⟨w.heap.size, 0, none⟩ = some (.slice none 0 0) ∧ v5.cell? ⟨w.heap.size, 1, none⟩ = some (.int .i64 0) ∧ v5.cell? ⟨w.heap.size, 2, none⟩ = some (.int .i64 0) ∧ v5.cell? ⟨w.heap.size, 3, none⟩ = some (.int .i64 0) ∧ v5.cell? ⟨w.heap.size, 4, none⟩ = some (.int .i64 0) ∧ v5.cell? ⟨w.heap.size, 5, none⟩ = some (.int .i64 0) := ⟨q5.cell 0, q5.cell 1, q5.cell 2, q5.cell 3, q5.cell 4, q5.cell 5⟩
    have zf := Bk.free q5
    have o1 := put6_bk q5 (.slice a9 BB.2.ms.length c9) (.int .i64 BB.2.done) (.int .i64 BB.2.addr) (.int .i64 (one01 BB.2.wrote)) (.int .i64 (one01 BB.2.stay)) (.int .i64 BB.2.e)
    have o2 := put6_within (y := v5) (g := w.heap.size) (.slice a9 BB.2.ms.length c9) (.int .i64 BB.2.done) (.int .i64 BB.2.addr) (.int .i64 (one01 BB.2.wrote)) (.int .i64 (one01 BB.2.stay)) (.int .i64 BB.2.e)
    have hC := Lib.hid (came_laid (Y := Y) (r := BB) hl5 h5 st5 q5 (by decide) o2 (Nat.le_refl _) hfar)
    clear q02 hl5 h5 hs5 st5 st o2 hR q2 c0 c1 c2 c3 c4 c5 c6 c7 c8 h4 HRun
    go_wp2_with (refine bodyPost_ret (v := .agg #[.slice a9 BB.2.ms.length c9, .int .i64 BB.2.done, .int .i64 BB.2.addr, .int .i64 (one01 BB.2.wrote), .int .i64 (one01 BB.2.stay), .int .i64 BB.2.e]) (w := put6 v5 w.heap.size (.slice a9 BB.2.ms.length c9) (.int .i64 BB.2.done) (.int .i64 BB.2.addr) (.int .i64 (one01 BB.2.wrote)) (.int .i64 (one01 BB.2.stay)) (.int .i64 BB.2.e)) ?hres rfl ?hpost)
    case hpost => exact hC.out
    case hres =>
      generalize put6 v5 w.heap.size (.slice a9 BB.2.ms.length c9) (.int .i64 BB.2.done) (.int .i64 BB.2.addr) (.int .i64 (one01 BB.2.wrote)) (.int .i64 (one01 BB.2.stay)) (.int .i64 BB.2.e) = v9 at *
      obtain ⟨o0, o1, o2, o3, o4, o5⟩ : v9.cell? ⟨w.heap.size, 0, none⟩ = some (.slice a9 BB.2.ms.length c9) ∧ v9.cell? ⟨w.heap.size, 1, none⟩ = some (.int .i64 BB.2.done) ∧ v9.cell? ⟨w.heap.size, 2, none⟩ = some (.int .i64 BB.2.addr) ∧ v9.cell? ⟨w.heap.size, 3, none⟩ = some (.int .i64 (one01 BB.2.wrote)) ∧ v9.cell? ⟨w.heap.size, 4, none⟩ = some (.int .i64 (one01 BB.2.stay)) ∧ v9.cell? ⟨w.heap.size, 5, none⟩ = some (.int .i64 BB.2.e) := ⟨o1.cell 0, o1.cell 1, o1.cell 2, o1.cell 3, o1.cell 4, o1.cell 5⟩
      simp [results, Tryz.results11, go_sem, o0, o1, o2, o3, o4, o5]
end
end Go.Proofs.YtpinpipjlongaaaGreat

/- What a step of the document's has in memory; a step that is a trap at once. -/
namespace Go.Proofs.YtpinpipjlongaaaGreat
set_option maxRecDepth 100000
open Go.ChangeShapes Go.WideShapes Go.ChangeAt Go.RowKit
set_option linter.unusedVariables false

/-- Its result's block, its core, the trap's. -/
structure SI (w : World) (Y0 : YP) (k : Lk) (xs : List Int) (pc : Int) (Y : YP) (m : Mc) (W : World) : Prop where
  ey : Ey W Y k m
  st : YStays w k.n Y0 W Y
  q : Bk W w.heap.size 54 #[.slice none 0 0, .int .i64 0, .int .i64 0, .int .i64 0, .int .i64 0, .int .i64 0]
  c : Rb W (w.heap.size + 1) xs pc
  tr : Bk W (w.heap.size + 1 + 1) 54 #[.slice none 0 0, .int .i64 (-1), .int .i64 (-1), .int .i64 0, .int .i64 0, .int .i64 11]
  far : ∀ i, Y.Own k.n i → i < w.heap.size ∨ w.heap.size + 4 ≤ i
section
variable {w W W' : World} {Y0 Y : YP} {k : Lk} {m : Mc} {xs : List Int} {pc : Int}
theorem SI.below (h : SI w Y0 k xs pc Y m W) (hb : Below W.heap.size W W') : SI w Y0 k xs pc Y m W' :=
  ⟨h.ey.below hb, h.st.grown hb, (hb.block _ h.q.lt).trans h.q, h.c.below hb, (hb.block _ h.tr.lt).trans h.tr, h.far⟩
theorem SI.off (h : SI w Y0 k xs pc Y m W) {b : Nat} (hW : Within W W' (fun i => i = b)) (h1 : w.heap.size + 1 < b) (h2 : b ≠ w.heap.size + 1 + 1) (h3 : ∀ i, Y.Own k.n i → i ≠ b) : SI w Y0 k xs pc Y m W' :=
  ⟨h.ey.kept hW (fun i hi e => h3 i hi e), h.st.far' hW (fun i e => by omega), h.q.within hW (by omega), Bk.within h.c hW (by omega), h.tr.within hW (by omega), h.far⟩
theorem SI.core {ys : List Int} {pc' : Int} (h : SI w Y0 k xs pc Y m W) (hW : Within W W' (fun i => i = w.heap.size + 1)) (hc : Rb W' (w.heap.size + 1) ys pc') : SI w Y0 k ys pc' Y m W' :=
  ⟨h.ey.kept hW (fun i hi e => by have := h.far i hi; omega), h.st.far' hW (fun i e => by omega), h.q.within hW (by omega), hc, h.tr.within hW (by omega), h.far⟩
theorem SI.reg (h : SI w Y0 k xs pc Y m W) (h8 : xs.length = 8) {d : Nat} (hd : d < 8) (v : Int) : SI w Y0 k (xs.set d v) pc Y m (W.setCell ⟨w.heap.size + 1, d, none⟩ (.int .i64 v)) :=
  h.core ((Within.refl _ (fun i => i = w.heap.size + 1)).put _ _ _ (.inl rfl)) (h.c.set h8 hd v)
theorem SI.place (h : SI w Y0 k xs pc Y m W) (h8 : xs.length = 8) (v : Int) : SI w Y0 k xs v Y m (W.setCell ⟨w.heap.size + 1, 8, none⟩ (.int .i64 v)) :=
  h.core ((Within.refl _ (fun i => i = w.heap.size + 1)).put _ _ _ (.inl rfl)) (h.c.setpc h8 v)
/-- A block of the call's own, behind the first four. -/
theorem SI.jb {b : Nat} {i : Ins} (hJ : Jb W b i) (hW : Within W W' (fun i => i = w.heap.size + 1)) (hb : w.heap.size + 1 < b) : Jb W' b i := Bk.within hJ hW (by omega)
theorem reg_within (W : World) (g o : Nat) (v : Value) : Within W (W.setCell ⟨g, o, none⟩ v) (fun i => i = g) := (Within.refl _ (fun i => i = g)).put _ _ _ (.inl rfl)
theorem drewN_below (x : World) (n : Nat) : Below x.heap.size x (x.drewN n) := ⟨rfl, rfl, rfl, Nat.le_refl _, fun _ _ => rfl⟩
theorem wrap_u32 {x : Int} (h : 0 ≤ x ∧ x < 4294967296) : x % 4294967296 = x := by omega
theorem ok_low {i : Ins} (h : OkI i) (hm : memB i.op = false) : i.op < 16 := by
  have ho := h.op
  unfold memB at hm
  simp at hm
  omega
end

section
variable {w w' : World} {Y : YP} {k : Lk} {m : Mc}
set_option maxHeartbeats 1000000 in
theorem yTrap (h : Ey w Y k m) (t : Nat) (ht : t < k.n) (late : Int) (hm : memI k (m.cs t).pc = none) :
    Calls Tryz.prog 13 #[.pointer (some ⟨Y.y, 0, none⟩), .int .i64 t, .int .i64 late] w (CameY w Y k (m, trapO)) := by
  have hnn := h.lk.n64
  have hl64 := h.lk.parts.2.1
  obtain ⟨r0, r1, r2, r3, r4, r5, r6, r7, pc, ec⟩ := h.core_cons ht
  have hx8 : Eight [r0, r1, r2, r3, r4, r5, r6, r7] := by have := h.mc.cs t ht; rw [ec] at this; exact this
  have HX := Lib.hid h
  rw [ec] at hm
  have q0 := Bk.made w 54 #[.slice none 0 0, .int .i64 0, .int .i64 0, .int .i64 0, .int .i64 0, .int .i64 0]
  have b0 : Below w.heap.size w (w.alloc (.cells #[.slice none 0 0, .int .i64 0, .int .i64 0, .int .i64 0, .int .i64 0, .int .i64 0] 54)) := (Below.refl _ _).alloc (Nat.le_refl _) _
  have s0 : (w.alloc (.cells #[.slice none 0 0, .int .i64 0, .int .i64 0, .int .i64 0, .int .i64 0, .int .i64 0] 54)).heap.size = w.heap.size + 1 := by simp
  go_enter Tryz.func13, Tryz.ntmps13
  go_upto_region 1 with fail
  generalize w.alloc (.cells #[.slice none 0 0, .int .i64 0, .int .i64 0, .int .i64 0, .int .i64 0, .int .i64 0] 54) = y at *
  have h2 := h.below b0
  obtain ⟨gk, capk, ek, hk1, hk2, hkb, hkf, -⟩ := h2.klIs
  unfold maxLen at hk2
  have cx6 := h2.c6
  rw [ek] at cx6
  obtain ⟨c0, c1, c2, c3, c4, c5, c6, c7, c8⟩ := h2.core ht ec ek
  go_upto_region 2 with fail
  have q1 := Rb.made y [r0, r1, r2, r3, r4, r5, r6, r7] pc
  have s1 : (y.alloc (.cells #[.int .i64 r0, .int .i64 r1, .int .i64 r2, .int .i64 r3, .int .i64 r4, .int .i64 r5, .int .i64 r6, .int .i64 r7, .int .i64 pc] 86)).heap.size = w.heap.size + 1 + 1 := by rw [World.size_alloc, s0]
  rw [s0] at q1
  simp only [rorC, List.map_cons, List.map_nil, List.cons_append, List.nil_append] at q1
  have b1 : Below y.heap.size y (y.alloc (.cells #[.int .i64 r0, .int .i64 r1, .int .i64 r2, .int .i64 r3, .int .i64 r4, .int .i64 r5, .int .i64 r6, .int .i64 r7, .int .i64 pc] 86)) := (Below.refl _ _).alloc (Nat.le_refl _) _
  replace q0 := (b1.block _ q0.lt).trans q0
  have h3 := h2.below b1
  replace b0 := b0.trans (b1.mono b0.size)
  clear c0 c1 c2 c3 c4 c5 c6 c7 c8 cx6 h2 b1 hkf s0 h hk1 hk2 hkb ek
  generalize y.alloc (.cells #[.int .i64 r0, .int .i64 r1, .int .i64 r2, .int .i64 r3, .int .i64 r4, .int .i64 r5, .int .i64 r6, .int .i64 r7, .int .i64 pc] 86) = z at *
  go_upto_region 3 with fail
  have b1 : Below z.heap.size z (z.alloc (.cells #[.slice none 0 0, .int .i64 (-1), .int .i64 (-1), .int .i64 0, .int .i64 0, .int .i64 11] 54)) := (Below.refl _ _).alloc (Nat.le_refl _) _
  have q2 := Bk.made z 54 #[.slice none 0 0, .int .i64 (-1), .int .i64 (-1), .int .i64 0, .int .i64 0, .int .i64 11]
  have s2 : (z.alloc (.cells #[.slice none 0 0, .int .i64 (-1), .int .i64 (-1), .int .i64 0, .int .i64 0, .int .i64 11] 54)).heap.size = w.heap.size + 1 + 1 + 1 := by rw [World.size_alloc, s1]
  rw [s1] at q2
  have hS : SI w Y k [r0, r1, r2, r3, r4, r5, r6, r7] pc Y m (z.alloc (.cells #[.slice none 0 0, .int .i64 (-1), .int .i64 (-1), .int .i64 0, .int .i64 0, .int .i64 11] 54)) := ⟨h3.below b1, (YStays.of_grown b0).grown b1, (b1.block _ (Bk.lt q0)).trans q0, (b1.block _ (Bk.lt q1)).trans q1, q2, fun i hi => .inl (HX.out.lt hi)⟩
  clear h3 b0 b1 q0 q1 q2 s1
  have HS2 := Lib.hid s2
  clear s2
  generalize z.alloc (.cells #[.slice none 0 0, .int .i64 (-1), .int .i64 (-1), .int .i64 0, .int .i64 0, .int .i64 11] 54) = x at *
  have HS := Lib.hid hS
  have cx0 := hS.ey.c0
  obtain ⟨hpv, aV, cV, eV⟩ := hS.ey.pv
  rw [eV] at cx0 hpv
  obtain ⟨a2, ca2, e2, _, _, _, hsl⟩ := hpv
  simp only [Value.agg.injEq, Array.mk.injEq, List.cons.injEq, Value.slice.injEq, and_true, true_and] at e2
  obtain ⟨rfl, rfl⟩ := e2
  have HV := Lib.hid eV
  clear eV
  obtain ⟨c0, c1, c2, c3, c4, c5, c6, c7, c8⟩ := hS.c.cells
  rcases memI_none hm with h1 | h1 | ⟨j, h1, h2, h3, h4⟩
  · clear hm
    simp only at h1
    clear hsl hS
    go_quiet (fail)
    go_upto_region 4 with fail
    have hS3 := HS.out.below (drewN_below x nq)
    clear c0 c1 c2 c3 c4 c5 c6 c7 c8 cx0
    generalize x.drewN nq = v at *
    obtain ⟨t0, t1, t2, t3, t4, t5⟩ : v.cell? ⟨w.heap.size + 1 + 1, 0, none⟩ = some (.slice none 0 0) ∧ v.cell? ⟨w.heap.size + 1 + 1, 1, none⟩ = some (.int .i64 (-1)) ∧ v.cell? ⟨w.heap.size + 1 + 1, 2, none⟩ = some (.int .i64 (-1)) ∧ v.cell? ⟨w.heap.size + 1 + 1, 3, none⟩ = some (.int .i64 0) ∧ v.cell? ⟨w.heap.size + 1 + 1, 4, none⟩ = some (.int .i64 0) ∧ v.cell? ⟨w.heap.size + 1 + 1, 5, none⟩ = some (.int .i64 11) := ⟨hS3.tr.cell 0, hS3.tr.cell 1, hS3.tr.cell 2, hS3.tr.cell 3, hS3.tr.cell 4, hS3.tr.cell 5⟩
    have q5 := hS3.q
    have HT := Lib.hid hS3
    obtain ⟨x0, x1, x2, x3, x4, x5⟩ : v.cell? ⟨w.heap.size, 0, none⟩ = some (.slice none 0 0) ∧ v.cell? ⟨w.heap.size, 1, none⟩ = some (.int .i64 0) ∧ v.cell? ⟨w.heap.size, 2, none⟩ = some (.int .i64 0) ∧ v.cell? ⟨w.heap.size, 3, none⟩ = some (.int .i64 0) ∧ v.cell? ⟨w.heap.size, 4, none⟩ = some (.int .i64 0) ∧ v.cell? ⟨w.heap.size, 5, none⟩ = some (.int .i64 0) := ⟨q5.cell 0, q5.cell 1, q5.cell 2, q5.cell 3, q5.cell 4, q5.cell 5⟩
    have zf := Bk.free q5
    have o1 := put6_bk q5 (.slice none 0 0) (.int .i64 (-1)) (.int .i64 (-1)) (.int .i64 0) (.int .i64 0) (.int .i64 11)
    have o2 := put6_within (y := v) (g := w.heap.size) (.slice none 0 0) (.int .i64 (-1)) (.int .i64 (-1)) (.int .i64 0) (.int .i64 0) (.int .i64 11)
    have hC := Lib.hid (came_laid (Y := Y) (r := (m, trapO)) (v := .slice none 0 0) (Lst.nil _ _ _) HT.out.ey HT.out.st HT.out.q (by decide) o2 (Nat.le_refl _) (fun i hi e => by have := HT.out.far i hi; omega))
    clear hS3 o2 HT
    go_wp2_with (refine bodyPost_ret (v := .agg #[.slice none 0 0, .int .i64 (-1), .int .i64 (-1), .int .i64 0, .int .i64 0, .int .i64 11]) (w := put6 v w.heap.size (.slice none 0 0) (.int .i64 (-1)) (.int .i64 (-1)) (.int .i64 0) (.int .i64 0) (.int .i64 11)) ?hres rfl ?hpost)
    case hpost => exact hC.out
    case hres =>
      generalize put6 v w.heap.size (.slice none 0 0) (.int .i64 (-1)) (.int .i64 (-1)) (.int .i64 0) (.int .i64 0) (.int .i64 11) = v9 at *
      obtain ⟨o0, o1, o2, o3, o4, o5⟩ : v9.cell? ⟨w.heap.size, 0, none⟩ = some (.slice none 0 0) ∧ v9.cell? ⟨w.heap.size, 1, none⟩ = some (.int .i64 (-1)) ∧ v9.cell? ⟨w.heap.size, 2, none⟩ = some (.int .i64 (-1)) ∧ v9.cell? ⟨w.heap.size, 3, none⟩ = some (.int .i64 0) ∧ v9.cell? ⟨w.heap.size, 4, none⟩ = some (.int .i64 0) ∧ v9.cell? ⟨w.heap.size, 5, none⟩ = some (.int .i64 11) := ⟨o1.cell 0, o1.cell 1, o1.cell 2, o1.cell 3, o1.cell 4, o1.cell 5⟩
      simp [results, Tryz.results13, go_sem, o0, o1, o2, o3, o4, o5]
  · clear hm
    simp only at h1
    by_cases h0 : pc < 0
    · clear h1
      have h1 := h0
      clear hsl hS
      go_quiet (fail)
      go_upto_region 4 with fail
      have hS3 := HS.out.below (drewN_below x nq)
      clear c0 c1 c2 c3 c4 c5 c6 c7 c8 cx0
      generalize x.drewN nq = v at *
      obtain ⟨t0, t1, t2, t3, t4, t5⟩ : v.cell? ⟨w.heap.size + 1 + 1, 0, none⟩ = some (.slice none 0 0) ∧ v.cell? ⟨w.heap.size + 1 + 1, 1, none⟩ = some (.int .i64 (-1)) ∧ v.cell? ⟨w.heap.size + 1 + 1, 2, none⟩ = some (.int .i64 (-1)) ∧ v.cell? ⟨w.heap.size + 1 + 1, 3, none⟩ = some (.int .i64 0) ∧ v.cell? ⟨w.heap.size + 1 + 1, 4, none⟩ = some (.int .i64 0) ∧ v.cell? ⟨w.heap.size + 1 + 1, 5, none⟩ = some (.int .i64 11) := ⟨hS3.tr.cell 0, hS3.tr.cell 1, hS3.tr.cell 2, hS3.tr.cell 3, hS3.tr.cell 4, hS3.tr.cell 5⟩
      have q5 := hS3.q
      have HT := Lib.hid hS3
      obtain ⟨x0, x1, x2, x3, x4, x5⟩ : v.cell? ⟨w.heap.size, 0, none⟩ = some (.slice none 0 0) ∧ v.cell? ⟨w.heap.size, 1, none⟩ = some (.int .i64 0) ∧ v.cell? ⟨w.heap.size, 2, none⟩ = some (.int .i64 0) ∧ v.cell? ⟨w.heap.size, 3, none⟩ = some (.int .i64 0) ∧ v.cell? ⟨w.heap.size, 4, none⟩ = some (.int .i64 0) ∧ v.cell? ⟨w.heap.size, 5, none⟩ = some (.int .i64 0) := ⟨q5.cell 0, q5.cell 1, q5.cell 2, q5.cell 3, q5.cell 4, q5.cell 5⟩
      have zf := Bk.free q5
      have o1 := put6_bk q5 (.slice none 0 0) (.int .i64 (-1)) (.int .i64 (-1)) (.int .i64 0) (.int .i64 0) (.int .i64 11)
      have o2 := put6_within (y := v) (g := w.heap.size) (.slice none 0 0) (.int .i64 (-1)) (.int .i64 (-1)) (.int .i64 0) (.int .i64 0) (.int .i64 11)
      have hC := Lib.hid (came_laid (Y := Y) (r := (m, trapO)) (v := .slice none 0 0) (Lst.nil _ _ _) HT.out.ey HT.out.st HT.out.q (by decide) o2 (Nat.le_refl _) (fun i hi e => by have := HT.out.far i hi; omega))
      clear hS3 o2 HT
      go_wp2_with (refine bodyPost_ret (v := .agg #[.slice none 0 0, .int .i64 (-1), .int .i64 (-1), .int .i64 0, .int .i64 0, .int .i64 11]) (w := put6 v w.heap.size (.slice none 0 0) (.int .i64 (-1)) (.int .i64 (-1)) (.int .i64 0) (.int .i64 0) (.int .i64 11)) ?hres rfl ?hpost)
      case hpost => exact hC.out
      case hres =>
        generalize put6 v w.heap.size (.slice none 0 0) (.int .i64 (-1)) (.int .i64 (-1)) (.int .i64 0) (.int .i64 0) (.int .i64 11) = v9 at *
        obtain ⟨o0, o1, o2, o3, o4, o5⟩ : v9.cell? ⟨w.heap.size, 0, none⟩ = some (.slice none 0 0) ∧ v9.cell? ⟨w.heap.size, 1, none⟩ = some (.int .i64 (-1)) ∧ v9.cell? ⟨w.heap.size, 2, none⟩ = some (.int .i64 (-1)) ∧ v9.cell? ⟨w.heap.size, 3, none⟩ = some (.int .i64 0) ∧ v9.cell? ⟨w.heap.size, 4, none⟩ = some (.int .i64 0) ∧ v9.cell? ⟨w.heap.size, 5, none⟩ = some (.int .i64 11) := ⟨o1.cell 0, o1.cell 1, o1.cell 2, o1.cell 3, o1.cell 4, o1.cell 5⟩
        simp [results, Tryz.results13, go_sem, o0, o1, o2, o3, o4, o5]
    have d0 : decide (pc < 0) = false := by simp; omega
    have d1 : pc ≥ (k.l.length : Int) := h1
    clear hsl hS
    go_quiet (fail)
    go_upto_region 4 with fail
    have hS3 := HS.out.below (drewN_below x nq)
    clear c0 c1 c2 c3 c4 c5 c6 c7 c8 cx0
    generalize x.drewN nq = v at *
    obtain ⟨t0, t1, t2, t3, t4, t5⟩ : v.cell? ⟨w.heap.size + 1 + 1, 0, none⟩ = some (.slice none 0 0) ∧ v.cell? ⟨w.heap.size + 1 + 1, 1, none⟩ = some (.int .i64 (-1)) ∧ v.cell? ⟨w.heap.size + 1 + 1, 2, none⟩ = some (.int .i64 (-1)) ∧ v.cell? ⟨w.heap.size + 1 + 1, 3, none⟩ = some (.int .i64 0) ∧ v.cell? ⟨w.heap.size + 1 + 1, 4, none⟩ = some (.int .i64 0) ∧ v.cell? ⟨w.heap.size + 1 + 1, 5, none⟩ = some (.int .i64 11) := ⟨hS3.tr.cell 0, hS3.tr.cell 1, hS3.tr.cell 2, hS3.tr.cell 3, hS3.tr.cell 4, hS3.tr.cell 5⟩
    have q5 := hS3.q
    have HT := Lib.hid hS3
    obtain ⟨x0, x1, x2, x3, x4, x5⟩ : v.cell? ⟨w.heap.size, 0, none⟩ = some (.slice none 0 0) ∧ v.cell? ⟨w.heap.size, 1, none⟩ = some (.int .i64 0) ∧ v.cell? ⟨w.heap.size, 2, none⟩ = some (.int .i64 0) ∧ v.cell? ⟨w.heap.size, 3, none⟩ = some (.int .i64 0) ∧ v.cell? ⟨w.heap.size, 4, none⟩ = some (.int .i64 0) ∧ v.cell? ⟨w.heap.size, 5, none⟩ = some (.int .i64 0) := ⟨q5.cell 0, q5.cell 1, q5.cell 2, q5.cell 3, q5.cell 4, q5.cell 5⟩
    have zf := Bk.free q5
    have o1 := put6_bk q5 (.slice none 0 0) (.int .i64 (-1)) (.int .i64 (-1)) (.int .i64 0) (.int .i64 0) (.int .i64 11)
    have o2 := put6_within (y := v) (g := w.heap.size) (.slice none 0 0) (.int .i64 (-1)) (.int .i64 (-1)) (.int .i64 0) (.int .i64 0) (.int .i64 11)
    have hC := Lib.hid (came_laid (Y := Y) (r := (m, trapO)) (v := .slice none 0 0) (Lst.nil _ _ _) HT.out.ey HT.out.st HT.out.q (by decide) o2 (Nat.le_refl _) (fun i hi e => by have := HT.out.far i hi; omega))
    clear hS3 o2 HT
    go_wp2_with (refine bodyPost_ret (v := .agg #[.slice none 0 0, .int .i64 (-1), .int .i64 (-1), .int .i64 0, .int .i64 0, .int .i64 11]) (w := put6 v w.heap.size (.slice none 0 0) (.int .i64 (-1)) (.int .i64 (-1)) (.int .i64 0) (.int .i64 0) (.int .i64 11)) ?hres rfl ?hpost)
    case hpost => exact hC.out
    case hres =>
      generalize put6 v w.heap.size (.slice none 0 0) (.int .i64 (-1)) (.int .i64 (-1)) (.int .i64 0) (.int .i64 0) (.int .i64 11) = v9 at *
      obtain ⟨o0, o1, o2, o3, o4, o5⟩ : v9.cell? ⟨w.heap.size, 0, none⟩ = some (.slice none 0 0) ∧ v9.cell? ⟨w.heap.size, 1, none⟩ = some (.int .i64 (-1)) ∧ v9.cell? ⟨w.heap.size, 2, none⟩ = some (.int .i64 (-1)) ∧ v9.cell? ⟨w.heap.size, 3, none⟩ = some (.int .i64 0) ∧ v9.cell? ⟨w.heap.size, 4, none⟩ = some (.int .i64 0) ∧ v9.cell? ⟨w.heap.size, 5, none⟩ = some (.int .i64 11) := ⟨o1.cell 0, o1.cell 1, o1.cell 2, o1.cell 3, o1.cell 4, o1.cell 5⟩
      simp [results, Tryz.results13, go_sem, o0, o1, o2, o3, o4, o5]
  · clear hm
    simp only at h1 h2 h3
    obtain ⟨n, rfl⟩ := Int.eq_ofNat_of_zero_le h1
    rw [Int.toNat_natCast] at h3
    obtain ⟨g, off, rfl, hgl, f0, f1, f2, f3, f4, f5, f6, f7⟩ := hsl.at_ h3
    have d0 : decide ((n : Int) < 0) = false := by simp
    have d1 : decide ((n : Int) ≥ (k.l.length : Int)) = false := by simp; omega
    have d4 : decide (k.l.length ≤ n) = false := by simp; omega
    have d2 : j.op < 16 := ok_low (HX.out.lk.ok j (List.mem_of_getElem? h3)) h4
    have d3 : (n : Int) < k.l.length := h2
    clear hsl hS f1 f2 f3 f4 f5 f6 f7 h3 h4 h1
    go_quiet (fail)
    go_upto_region 4 with fail
    have hS3 := HS.out.below (drewN_below x nq)
    clear c0 c1 c2 c3 c4 c5 c6 c7 c8 cx0
    generalize x.drewN nq = v at *
    obtain ⟨t0, t1, t2, t3, t4, t5⟩ : v.cell? ⟨w.heap.size + 1 + 1, 0, none⟩ = some (.slice none 0 0) ∧ v.cell? ⟨w.heap.size + 1 + 1, 1, none⟩ = some (.int .i64 (-1)) ∧ v.cell? ⟨w.heap.size + 1 + 1, 2, none⟩ = some (.int .i64 (-1)) ∧ v.cell? ⟨w.heap.size + 1 + 1, 3, none⟩ = some (.int .i64 0) ∧ v.cell? ⟨w.heap.size + 1 + 1, 4, none⟩ = some (.int .i64 0) ∧ v.cell? ⟨w.heap.size + 1 + 1, 5, none⟩ = some (.int .i64 11) := ⟨hS3.tr.cell 0, hS3.tr.cell 1, hS3.tr.cell 2, hS3.tr.cell 3, hS3.tr.cell 4, hS3.tr.cell 5⟩
    have q5 := hS3.q
    have HT := Lib.hid hS3
    obtain ⟨x0, x1, x2, x3, x4, x5⟩ : v.cell? ⟨w.heap.size, 0, none⟩ = some (.slice none 0 0) ∧ v.cell? ⟨w.heap.size, 1, none⟩ = some (.int .i64 0) ∧ v.cell? ⟨w.heap.size, 2, none⟩ = some (.int .i64 0) ∧ v.cell? ⟨w.heap.size, 3, none⟩ = some (.int .i64 0) ∧ v.cell? ⟨w.heap.size, 4, none⟩ = some (.int .i64 0) ∧ v.cell? ⟨w.heap.size, 5, none⟩ = some (.int .i64 0) := ⟨q5.cell 0, q5.cell 1, q5.cell 2, q5.cell 3, q5.cell 4, q5.cell 5⟩
    have zf := Bk.free q5
    have o1 := put6_bk q5 (.slice none 0 0) (.int .i64 (-1)) (.int .i64 (-1)) (.int .i64 0) (.int .i64 0) (.int .i64 11)
    have o2 := put6_within (y := v) (g := w.heap.size) (.slice none 0 0) (.int .i64 (-1)) (.int .i64 (-1)) (.int .i64 0) (.int .i64 0) (.int .i64 11)
    have hC := Lib.hid (came_laid (Y := Y) (r := (m, trapO)) (v := .slice none 0 0) (Lst.nil _ _ _) HT.out.ey HT.out.st HT.out.q (by decide) o2 (Nat.le_refl _) (fun i hi e => by have := HT.out.far i hi; omega))
    clear hS3 o2 HT
    go_wp2_with (refine bodyPost_ret (v := .agg #[.slice none 0 0, .int .i64 (-1), .int .i64 (-1), .int .i64 0, .int .i64 0, .int .i64 11]) (w := put6 v w.heap.size (.slice none 0 0) (.int .i64 (-1)) (.int .i64 (-1)) (.int .i64 0) (.int .i64 0) (.int .i64 11)) ?hres rfl ?hpost)
    case hpost => exact hC.out
    case hres =>
      generalize put6 v w.heap.size (.slice none 0 0) (.int .i64 (-1)) (.int .i64 (-1)) (.int .i64 0) (.int .i64 0) (.int .i64 11) = v9 at *
      obtain ⟨o0, o1, o2, o3, o4, o5⟩ : v9.cell? ⟨w.heap.size, 0, none⟩ = some (.slice none 0 0) ∧ v9.cell? ⟨w.heap.size, 1, none⟩ = some (.int .i64 (-1)) ∧ v9.cell? ⟨w.heap.size, 2, none⟩ = some (.int .i64 (-1)) ∧ v9.cell? ⟨w.heap.size, 3, none⟩ = some (.int .i64 0) ∧ v9.cell? ⟨w.heap.size, 4, none⟩ = some (.int .i64 0) ∧ v9.cell? ⟨w.heap.size, 5, none⟩ = some (.int .i64 11) := ⟨o1.cell 0, o1.cell 1, o1.cell 2, o1.cell 3, o1.cell 4, o1.cell 5⟩
      simp [results, Tryz.results13, go_sem, o0, o1, o2, o3, o4, o5]
end
end Go.Proofs.YtpinpipjlongaaaGreat

/- The document's step: behind the pool's calls; an access as plain lists; the block of what a step comes to. -/
namespace Go.Proofs.YtpinpipjlongaaaGreat
set_option maxRecDepth 100000
open Go.ChangeShapes Go.WideShapes Go.ChangeAt Go.RowKit
set_option linter.unusedVariables false

section
variable {w w' W W' : World} {Y Y0 Y' : YP} {k : Lk} {m m' : Mc} {xs : List Int} {pc : Int}
/-- Behind a call of the pool's, or any other change of the lock's own. -/
theorem SI.pool (h : SI w Y0 k xs pc Y m W) (hz : w.heap.size + 4 ≤ W.heap.size) (e : Ey W' Y' k m') (s : YStays W k.n Y W' Y') : SI w Y0 k xs pc Y' m' W' :=
  ⟨e, h.st.then_ s, h.q.within s.1 (fun e => by have := h.far _ e; omega), Bk.within h.c s.1 (fun e => by have := h.far _ e; omega), h.tr.within s.1 (fun e => by have := h.far _ e; omega), fun i hi => by
    rcases s.2.1 i hi with q | q
    · exact h.far i q
    · exact .inr (by omega)⟩
theorem find_lt {zs : List Int} {area x : Int} {A : Nat} (h : findM zs area x = some A) : A < tot zs := by
  unfold findM at h
  split at h
  · rename_i hc
    injection h with h
    obtain ⟨B, rfl⟩ := Int.eq_ofNat_of_zero_le hc.1
    have := pre_lt (zs := zs) (a := B) (p := (x % 4096).toNat) (by omega) (by have := hc.2.2; rw [Int.toNat_natCast] at this; omega)
    rw [Int.toNat_natCast] at h
    omega
  · cases h
/-- The block of what the step comes to. -/
def So (W : World) (b A : Nat) (WR ST D : Int) : Prop := Bk W b 54 #[.slice none 0 0, .int .i64 D, .int .i64 A, .int .i64 WR, .int .i64 ST, .int .i64 0]
theorem So.cells {b A : Nat} {WR ST D : Int} (h : So W b A WR ST D) : W.cell? ⟨b, 0, none⟩ = some (.slice none 0 0) ∧ W.cell? ⟨b, 1, none⟩ = some (.int .i64 D) ∧ W.cell? ⟨b, 2, none⟩ = some (.int .i64 A) ∧ W.cell? ⟨b, 3, none⟩ = some (.int .i64 WR) ∧ W.cell? ⟨b, 4, none⟩ = some (.int .i64 ST) ∧ W.cell? ⟨b, 5, none⟩ = some (.int .i64 0) :=
  ⟨Bk.cell h 0, Bk.cell h 1, Bk.cell h 2, Bk.cell h 3, Bk.cell h 4, Bk.cell h 5⟩
end
section
variable {k : Lk} {m : Mc} {t : Nat} {c : Cor} {late : Bool} {i : Ins} {a : Nat}
theorem acc_load (h : i.op = 16) : accM k m t c late i a = runM k m t ⟨c.xs.set i.d.toNat (nth m.ws a), c.pc + 1⟩ ⟨[], 0, a, false, false, 0⟩ := by
  unfold accM; simp [h]
theorem acc_store (h : i.op = 17) : accM k m t c late i a = runM k { m with ws := m.ws.set a (nth c.xs i.t.toNat) } t ⟨c.xs, c.pc + 1⟩ ⟨[], 0, a, true, false, 0⟩ := by
  unfold accM; simp [h]
theorem acc_swap (h : i.op = 18) : accM k m t c late i a = runM k { m with ws := m.ws.set a (nth c.xs i.t.toNat) } t ⟨c.xs.set i.d.toNat (nth m.ws a), c.pc + 1⟩ ⟨[], 0, a, true, false, 0⟩ := by
  unfold accM; simp [h]
theorem acc_cas (h : i.op = 19) : accM k m t c late i a = if nth m.ws a = nth c.xs i.t.toNat then runM k { m with ws := m.ws.set a (nth c.xs i.u.toNat) } t ⟨c.xs.set i.d.toNat 1, c.pc + 1⟩ ⟨[], 0, a, true, false, 0⟩
    else runM k m t ⟨c.xs.set i.d.toNat 0, c.pc + 1⟩ ⟨[], 0, a, false, false, 0⟩ := by
  unfold accM; simp [h]
theorem acc_fadd (h : i.op = 20) : accM k m t c late i a = runM k { m with ws := m.ws.set a ((nth m.ws a + i.k) % 4294967296) } t ⟨c.xs.set i.d.toNat (nth m.ws a), c.pc + 1⟩ ⟨[], 0, a, true, false, 0⟩ := by
  unfold accM; simp [h]
theorem acc_await (h : i.op = 21) : accM k m t c late i a = if (decide (nth m.ws a = nth c.xs i.t.toNat) != decide (i.k = 1)) = true then runM k m t ⟨c.xs.set i.d.toNat (nth m.ws a), c.pc + 1⟩ ⟨[], 0, a, false, false, 0⟩
    else if late = false ∨ i.pl < 0 then ({ m with cs := updN m.cs t ⟨c.xs.set i.d.toNat (nth m.ws a), c.pc⟩ }, ⟨[], -1, a, false, true, 0⟩)
    else runM k m t ⟨c.xs.set i.d.toNat (nth m.ws a), i.pl⟩ ⟨[], 0, a, false, false, 0⟩ := by
  unfold accM; simp [h]
end
end Go.Proofs.YtpinpipjlongaaaGreat
