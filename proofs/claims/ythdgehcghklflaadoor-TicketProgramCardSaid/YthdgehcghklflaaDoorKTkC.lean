/- TkC, RuI, AsmC, AsmD, RuJ, AsmE. -/
import Derived.Test.YthdgehcghklflaaDoorKAsmM
import Derived.Test.YthdgehcghklflaaDoorKPrgM
import Derived.Test.YthdgehcghklflaaDoorKMem
import Derived.Deep.QuietTactic
import Derived.Deep.CutBlock
/- The program's Spec of the ticket lock. -/
namespace Go.Proofs.YthdgehcghklflaaDoor
set_option maxRecDepth 100000
open Go.ChangeShapes Go.WideShapes Go.ChangeAt Go.RowKit
set_option linter.unusedVariables false

theorem word32Info : (Tryd.prog.info? 22).map (fun i => (i.zero, i.size, i.bytes)) = some (some (.int .u32 0), 1, 4) := by kernel_rfl
theorem makeWords (N : Nat) (hN : N ≤ 40000) (W : World) : (Instr.makeSlice 29 (.int .i64 N) (.int .i64 N)).run Tryd.prog W = .ok (.slice (some ⟨W.heap.size, 0, none⟩) N N) (W.alloc (.cells (madeCells #[.int .u32 0] N) 22)) := by
  obtain ⟨i0, hi0, hz0, hz1, hz2⟩ := info_parts word32Info
  have h := run_make (P := Tryd.prog) W 29 22 i0 _ Tryd.underlying29 hi0 hz0 .i64 .i64 N N (by omega) (by omega) (by rw [hz2]; omega) (by omega)
  rw [hz1] at h
  simpa [Value.cells] using h
/-- What an Assemble of the program's leaves. -/
def AsmC (w : World) (e : Ending) (w' : World) : Prop := ∃ v, e = .returned (.tuple #[v, .int .i64 0, .int .i64 0]) ∧ Pg w' w.heap.size v tkP ∧ Below w.heap.size w w'
/-- A spec's value, the three rows of its own beside the code. -/
def SpN (aL : Option Addr) (n cL : Nat) (lo un st : Int) (N : Nat) (v : Value) (W : World) : Prop :=
  ∃ b1 b2 b3, v = .agg #[.slice aL n cL, .int .i64 lo, .int .i64 un, .slice (some ⟨b1, 0, none⟩) 2 2, .slice (some ⟨b2, 0, none⟩) 2 2, .int .i64 0, .slice (some ⟨b3, 0, none⟩) N N] ∧ Bk W b1 3 #[.int .i64 1, .int .i64 1] ∧ Bk W b2 22 #[.int .u32 st, .int .u32 st] ∧ Bk W b3 22 (madeCells #[.int .u32 0] N)
def Sl1 (v : Value) (W : World) : Prop := ∃ b, v = .slice (some ⟨b, 0, none⟩) 2 2 ∧ Bk W b 3 #[.int .i64 1, .int .i64 1]
def Sl2 (st : Int) (v : Value) (W : World) : Prop := ∃ b, v = .slice (some ⟨b, 0, none⟩) 2 2 ∧ Bk W b 22 #[.int .u32 st, .int .u32 st]
def Sl3 (N : Nat) (v : Value) (W : World) : Prop := ∃ b, v = .slice (some ⟨b, 0, none⟩) N N ∧ Bk W b 22 (madeCells #[.int .u32 0] N)
section
variable {aL : Option Addr} {n cL N : Nat} {lo un st : Int} {v : Value} {W W' : World}
theorem SpN.within {S : Nat → Prop} (h : SpN aL n cL lo un st N v W) (hw : Within W W' S) (hS : ∀ b, S b → ∃ t cs, Bk W b t cs ∧ t ≠ 3 ∧ t ≠ 22) : SpN aL n cL lo un st N v W' := by
  obtain ⟨b1, b2, b3, e, h1, h2, h3⟩ := h
  refine ⟨b1, b2, b3, e, h1.within hw fun hs => ?_, h2.within hw fun hs => ?_, h3.within hw fun hs => ?_⟩
  · obtain ⟨t, cs, hb, ht, _⟩ := hS _ hs; exact Bk.unlike h1 hb (fun e => ht e.symm) rfl
  · obtain ⟨t, cs, hb, _, ht⟩ := hS _ hs; exact Bk.unlike h2 hb (fun e => ht e.symm) rfl
  · obtain ⟨t, cs, hb, _, ht⟩ := hS _ hs; exact Bk.unlike h3 hb (fun e => ht e.symm) rfl
theorem SpN.below (h : SpN aL n cL lo un st N v W) (hb : Below W.heap.size W W') : SpN aL n cL lo un st N v W' := h.within (within_of_below hb) (by simp)
theorem Sl1.below (h : Sl1 v W) (hb : Below W.heap.size W W') : Sl1 v W' := by obtain ⟨b, e, h1⟩ := h; exact ⟨b, e, (hb.block _ h1.lt).trans h1⟩
theorem Sl2.below (h : Sl2 st v W) (hb : Below W.heap.size W W') : Sl2 st v W' := by obtain ⟨b, e, h1⟩ := h; exact ⟨b, e, (hb.block _ h1.lt).trans h1⟩
theorem Sl3.below (h : Sl3 N v W) (hb : Below W.heap.size W W') : Sl3 N v W' := by obtain ⟨b, e, h1⟩ := h; exact ⟨b, e, (hb.block _ h1.lt).trans h1⟩
theorem Sl1.within {S : Nat → Prop} (h : Sl1 v W) (hw : Within W W' S) (hS : ∀ b, S b → ∃ t cs, Bk W b t cs ∧ t ≠ 3 ∧ t ≠ 22) : Sl1 v W' := by
  obtain ⟨b, e, h1⟩ := h; exact ⟨b, e, h1.within hw fun hs => by obtain ⟨t, cs, hb, ht, _⟩ := hS _ hs; exact Bk.unlike h1 hb (fun e => ht e.symm) rfl⟩
theorem Sl2.within {S : Nat → Prop} (h : Sl2 st v W) (hw : Within W W' S) (hS : ∀ b, S b → ∃ t cs, Bk W b t cs ∧ t ≠ 3 ∧ t ≠ 22) : Sl2 st v W' := by
  obtain ⟨b, e, h1⟩ := h; exact ⟨b, e, h1.within hw fun hs => by obtain ⟨t, cs, hb, _, ht⟩ := hS _ hs; exact Bk.unlike h1 hb (fun e => ht e.symm) rfl⟩
theorem Sl3.within {S : Nat → Prop} (h : Sl3 N v W) (hw : Within W W' S) (hS : ∀ b, S b → ∃ t cs, Bk W b t cs ∧ t ≠ 3 ∧ t ≠ 22) : Sl3 N v W' := by
  obtain ⟨b, e, h1⟩ := h; exact ⟨b, e, h1.within hw fun hs => by obtain ⟨t, cs, hb, _, ht⟩ := hS _ hs; exact Bk.unlike h1 hb (fun e => ht e.symm) rfl⟩
/-- .. what was made, as what can be read. -/
theorem given_two {k : IntKind} {t : TypeId} {b : Nat} {x : Int} (h : Bk W b t #[.int k x, .int k x]) : Given k W (some ⟨b, 0, none⟩) [x, x] := fun _ => ⟨b, 0, rfl, h.lt, fun i hi => by
  have : i = 0 ∨ i = 1 := by simp at hi; omega
  rcases this with rfl | rfl
  · exact h.cell 0
  · exact h.cell 1⟩
theorem given_zeros {t : TypeId} {b : Nat} (h : Bk W b t (madeCells #[.int .u32 0] N)) : Given .u32 W (some ⟨b, 0, none⟩) (tkR N) := fun _ => ⟨b, 0, rfl, h.lt, fun i hi => by
  have hi2 : i < N := by simpa [tkR] using hi
  rw [Nat.zero_add, h.cell]
  have e : nth (tkR N) i = 0 := by
    unfold nth tkR
    rw [List.getD_eq_getElem?_getD, List.getElem?_replicate]
    split <;> rfl
  rw [e]
  unfold madeCells
  simp [hi2, Nat.mod_one]⟩
end
set_option maxHeartbeats 4000000 in
theorem cSpecW (N : Nat) (st : Int) (w : World) (h1 : 1 ≤ N) (h64 : N ≤ 64) (h0 : 0 ≤ st) (h2 : st < 4294967296) (HA : ∀ W, Below w.heap.size w W → Calls Tryd.prog 8 #[bs tkText] W (AsmC W)) :
    Calls Tryd.prog 4 #[.int .i64 N, .int .u32 st] w fun e w' => ∃ v, e = .returned (.tuple #[v, .int .i64 0]) ∧ Sv w' v tkP [1, 1] [st, st] (tkR N) 0 ∧ Below w.heap.size w w' := by
  have HAA := Lib.hid HA
  unfold bs tkText at HAA
  unfold AsmC at HAA
  generalize tkP = c at *
  have hb1 : Below w.heap.size w (w.alloc (.cells #[.slice none 0 0, .int .i64 0, .int .i64 0, .slice none 0 0, .slice none 0 0, .int .i64 0, .slice none 0 0] 31)) := (Below.refl _ _).alloc (Nat.le_refl _) _
  have q0 := Bk.made w 31 #[.slice none 0 0, .int .i64 0, .int .i64 0, .slice none 0 0, .slice none 0 0, .int .i64 0, .slice none 0 0]
  clear HA
  go_enter Tryd.func4, Tryd.ntmps4
  go_upto_region 3 with fail
  generalize w.alloc (.cells #[.slice none 0 0, .int .i64 0, .int .i64 0, .slice none 0 0, .slice none 0 0, .int .i64 0, .slice none 0 0] 31) = y at *
  go_upto_region 4 with (refine (HAA.out y hb1).mono ?_; rintro e z ⟨v, rfl, ⟨sl, rfl, hO⟩, hz⟩; obtain ⟨aL, cL, rfl, hcl⟩ := own_is hO)
  have q1 := (hz.block _ (Bk.lt q0)).trans q0
  have b1 := hb1.trans (hz.mono hb1.size)
  have q2 := Bk.made z 27 #[.slice aL c.l.length cL, .int .i64 c.lo, .int .i64 c.un]
  have hza : Below z.heap.size z (z.alloc (.cells #[.slice aL c.l.length cL, .int .i64 c.lo, .int .i64 c.un] 27)) := (Below.refl _ _).alloc (Nat.le_refl _) _
  replace q1 : Bk _ w.heap.size 31 #[.slice none 0 0, .int .i64 0, .int .i64 0, .slice none 0 0, .slice none 0 0, .int .i64 0, .slice none 0 0] := (hza.block _ (Bk.lt q1)).trans q1
  replace b1 := b1.trans (hza.mono b1.size)
  have hO2 := own_below hO hza
  obtain ⟨zb, hzb⟩ : ∃ zb, z.heap.size = zb := ⟨_, rfl⟩
  rw [hzb] at q2
  rw [hzb]
  generalize z.alloc (.cells #[.slice aL c.l.length cL, .int .i64 c.lo, .int .i64 c.un] 27) = x at *
  have HQ : Hid (∀ W, Below x.heap.size x W → Bk W zb 27 #[.slice aL c.l.length cL, .int .i64 c.lo, .int .i64 c.un] ∧ Bk W w.heap.size 31 #[.slice none 0 0, .int .i64 0, .int .i64 0, .slice none 0 0, .slice none 0 0, .int .i64 0, .slice none 0 0] ∧ Below w.heap.size w W ∧ W.ownsRow y.heap.size 60 8 (.slice aL c.l.length cL) c.l.length (progC c.l)) := Lib.hid fun W hW => ⟨(hW.block _ (Bk.lt q2)).trans q2, (hW.block _ (Bk.lt q1)).trans q1, b1.trans (hW.mono b1.size), own_below hO2 hW⟩
  have HC := Lib.hid hcl
  clear hO hO2 hza hz hb1 q0 q1 q2 b1 hzb HAA hcl
  refine wp_region_flow [8] (fun j W => match j with | 0 => Below x.heap.size x W | _ => ∃ v, SpN aL c.l.length cL c.lo c.un st N v W ∧ (∃ cs, v = .agg cs ∧ Bk W w.heap.size 31 cs) ∧ Below w.heap.size w W ∧ W.ownsRow y.heap.size 60 8 (.slice aL c.l.length cL) c.l.length (progC c.l)) (fun _ W W2 => Within W W2 (fun i => i = w.heap.size) ∧ ∃ cs, Bk W w.heap.size 31 cs) (fun vs => { tmps := #[.int .i64 (N : Int), .int .u32 st, undef, undef, .pointer (some ⟨w.heap.size, 0, none⟩), vs 9, .pointer (some ⟨zb, 0, none⟩), .int .i64 0, .int .i64 0, .int .i64 (N : Int), .bool (decide ((N : Int) < 1)), .bool (decide ((N : Int) < 1)), .int .i64 (N : Int), .bool (decide (64 < (N : Int))), .bool (decide ((N : Int) < 1) || decide (64 < (N : Int))), undef, .tuple #[.agg #[.slice aL c.l.length cL, .int .i64 c.lo, .int .i64 c.un], .int .i64 0, .int .i64 0], .tuple #[.agg #[.slice aL c.l.length cL, .int .i64 c.lo, .int .i64 c.un], .int .i64 0, .int .i64 0], .agg #[.slice aL c.l.length cL, .int .i64 c.lo, .int .i64 c.un], .int .i64 0, .int .i64 0, vs 0, vs 1, vs 2, vs 3, vs 4, vs 5, vs 6, vs 7], defers := [] }) (mixT [(1, Sl1), (4, Sl2 st), (6, Sl3 N), (7, SpN aL c.l.length cL c.lo c.un st N)] [.agg #[.slice aL c.l.length cL, .int .i64 c.lo, .int .i64 c.un], undef, .int .u32 st, .int .u32 st, undef, .int .i64 (N : Int), undef, undef, undef, .int .i64 0]) ?ghm ?ghr ?ghc ?ghnd ?ghlit ?gh0 ?ghW ?ghF ?ghS ?gops ?gdone
  case ghm => kernel_rfl
  case ghr => kernel_rfl
  case ghc => kernel_rfl
  case ghnd => decide
  case ghlit => intro vs; rfl
  case gh0 => exact Below.refl _ _
  case ghW => exact fun kk W W2 h hb => match kk, h with
    | 0, h => h.trans (hb.mono h.size)
    | _ + 1, ⟨v, h1, ⟨cs, h2, h3⟩, h4, h5⟩ => ⟨v, h1.below hb, ⟨cs, h2, (hb.block _ (Bk.lt h3)).trans h3⟩, h4.trans (hb.mono h4.size), own_below h5 hb⟩
  case ghF => exact mixT_stable (by
    intro p0 hp
    simp only [List.mem_cons, List.not_mem_nil, or_false] at hp
    rcases hp with rfl | rfl | rfl | rfl
    · exact fun v W W2 h hb => Sl1.below h hb
    · exact fun v W W2 h hb => Sl2.below h hb
    · exact fun v W W2 h hb => Sl3.below h hb
    · exact fun v W W2 h hb => SpN.below h hb)
  case ghS => exact fun kk W W2 _ hs i v h => mixT_keep (R := fun W W2 => Within W W2 (fun i => i = w.heap.size) ∧ ∃ cs, Bk W w.heap.size 31 cs) (ps := [(1, Sl1), (4, Sl2 st), (6, Sl3 N), (7, SpN aL c.l.length cL c.lo c.un st N)]) (l := [.agg #[.slice aL c.l.length cL, .int .i64 c.lo, .int .i64 c.un], undef, .int .u32 st, .int .u32 st, undef, .int .i64 (N : Int), undef, undef, undef, .int .i64 0]) (by
    intro p0 hp
    simp only [List.mem_cons, List.not_mem_nil, or_false] at hp
    rcases hp with rfl | rfl | rfl | rfl
    · rintro v W W2 h ⟨hw, cs, hb⟩; exact Sl1.within h hw (by rintro b rfl; exact ⟨_, _, hb, by decide, by decide⟩)
    · rintro v W W2 h ⟨hw, cs, hb⟩; exact Sl2.within h hw (by rintro b rfl; exact ⟨_, _, hb, by decide, by decide⟩)
    · rintro v W W2 h ⟨hw, cs, hb⟩; exact Sl3.within h hw (by rintro b rfl; exact ⟨_, _, hb, by decide, by decide⟩)
    · rintro v W W2 h ⟨hw, cs, hb⟩; exact SpN.within h hw (by rintro b rfl; exact ⟨_, _, hb, by decide, by decide⟩)) i v W W2 h hs
  case gops =>
    refine ⟨?_, ?_, ?_, ?_, ?_, ?_, ?_, ?_, ?_, ?_, trivial⟩
    · intro vs W kk h1 h2 hW hd
      obtain rfl : kk = 0 := Nat.le_zero.1 h2
      refine leaves_free rfl ?_
      have hq := (HQ.out W hW).1
      obtain ⟨y0, y1, y2⟩ : W.cell? ⟨zb, 0, none⟩ = some (.slice aL c.l.length cL) ∧ W.cell? ⟨zb, 1, none⟩ = some (.int .i64 c.lo) ∧ W.cell? ⟨zb, 2, none⟩ = some (.int .i64 c.un) := ⟨hq.cell 0, hq.cell 1, hq.cell 2⟩
      clear hq hd
      go_simp
      exact ⟨rfl, Below.refl _ _⟩
    · intro vs W kk h1 h2 hW hd
      obtain rfl : kk = 0 := Nat.le_zero.1 h2
      refine leaves_free rfl ?_
      clear hd
      go_simp
      exact ⟨⟨_, rfl, Bk.made W _ _⟩, (Below.refl _ _).alloc (Nat.le_refl _) _⟩
    · intro vs W kk h1 h2 hW hd
      obtain rfl : kk = 0 := Nat.le_zero.1 h2
      refine leaves_free rfl ?_
      clear hd
      go_simp
      exact ⟨rfl, Below.refl _ _⟩
    · intro vs W kk h1 h2 hW hd
      obtain rfl : kk = 0 := Nat.le_zero.1 h2
      refine leaves_free rfl ?_
      clear hd
      go_simp
      exact ⟨rfl, Below.refl _ _⟩
    · intro vs W kk h1 h2 hW hd
      obtain rfl : kk = 0 := Nat.le_zero.1 h2
      refine leaves_free rfl ?_
      have e2 : vs 2 = .int .u32 st := hd 2 (by decide)
      have e3 : vs 3 = .int .u32 st := hd 3 (by decide)
      clear hd
      go_simp
      exact ⟨⟨_, rfl, Bk.made W _ _⟩, (Below.refl _ _).alloc (Nat.le_refl _) _⟩
    · intro vs W kk h1 h2 hW hd
      obtain rfl : kk = 0 := Nat.le_zero.1 h2
      refine leaves_free rfl ?_
      clear hd
      go_simp
      exact ⟨rfl, Below.refl _ _⟩
    · intro vs W kk h1 h2 hW hd
      obtain rfl : kk = 0 := Nat.le_zero.1 h2
      refine leaves_free rfl ?_
      have e5 : vs 5 = .int .i64 (N : Int) := hd 5 (by decide)
      have hmk := makeWords N (by omega) W
      clear hd
      go_simp
      try simp only [hmk]
      exact ⟨⟨_, rfl, Bk.made W _ _⟩, (Below.refl _ _).alloc (Nat.le_refl _) _⟩
    · intro vs W kk h1 h2 hW hd
      obtain rfl : kk = 0 := Nat.le_zero.1 h2
      refine leaves_free rfl ?_
      have e0 : vs 0 = .agg #[.slice aL c.l.length cL, .int .i64 c.lo, .int .i64 c.un] := hd 0 (by decide)
      obtain ⟨d1, e1, k1⟩ : Sl1 (vs 1) W := hd 1 (by decide)
      obtain ⟨d4, e4, k4⟩ : Sl2 st (vs 4) W := hd 4 (by decide)
      obtain ⟨d6, e6, k6⟩ : Sl3 N (vs 6) W := hd 6 (by decide)
      clear hd
      go_simp
      exact ⟨⟨d1, d4, d6, rfl, k1, k4, k6⟩, Below.refl _ _⟩
    · intro vs W hW hd
      have hsp : SpN aL c.l.length cL c.lo c.un st N (vs 7) W := hd 7 (by decide)
      obtain ⟨d1, d4, d6, e7, k1, k4, k6⟩ := id hsp
      obtain ⟨-, hq, hbw, hown⟩ := HQ.out W hW
      obtain ⟨y0, y1, y2, y3, y4, y5, y6⟩ : W.cell? ⟨w.heap.size, 0, none⟩ = some (.slice none 0 0) ∧ W.cell? ⟨w.heap.size, 1, none⟩ = some (.int .i64 0) ∧ W.cell? ⟨w.heap.size, 2, none⟩ = some (.int .i64 0) ∧ W.cell? ⟨w.heap.size, 3, none⟩ = some (.slice none 0 0) ∧ W.cell? ⟨w.heap.size, 4, none⟩ = some (.slice none 0 0) ∧ W.cell? ⟨w.heap.size, 5, none⟩ = some (.int .i64 0) ∧ W.cell? ⟨w.heap.size, 6, none⟩ = some (.slice none 0 0) := ⟨hq.cell 0, hq.cell 1, hq.cell 2, hq.cell 3, hq.cell 4, hq.cell 5, hq.cell 6⟩
      have zf := Bk.free hq
      have hw7 := put7_within (y := W) (g := w.heap.size) (.slice aL c.l.length cL) (.int .i64 c.lo) (.int .i64 c.un) (.slice (some ⟨d1, 0, none⟩) 2 2) (.slice (some ⟨d4, 0, none⟩) 2 2) (.int .i64 0) (.slice (some ⟨d6, 0, none⟩) N N)
      have hk7 := put7_bk hq (.slice aL c.l.length cL) (.int .i64 c.lo) (.int .i64 c.un) (.slice (some ⟨d1, 0, none⟩) 2 2) (.slice (some ⟨d4, 0, none⟩) 2 2) (.int .i64 0) (.slice (some ⟨d6, 0, none⟩) N N)
      have hb7 := put7_below hbw (Nat.le_refl _) (.slice aL c.l.length cL) (.int .i64 c.lo) (.int .i64 c.un) (.slice (some ⟨d1, 0, none⟩) 2 2) (.slice (some ⟨d4, 0, none⟩) 2 2) (.int .i64 0) (.slice (some ⟨d6, 0, none⟩) N N)
      rw [e7] at hsp
      have hs7 := SpN.within hsp hw7 (by rintro b rfl; exact ⟨_, _, hq, by decide, by decide⟩)
      have ho7 := own_safe hown hw7 hq (by decide)
      have HKK := Lib.hid (And.intro hs7 (And.intro hk7 (And.intro hb7 (And.intro ho7 (And.intro hw7 hq)))))
      refine leavesIf_free rfl ?_
      clear hd hsp hs7 hk7 hb7 ho7 hw7 hq hbw hown k1 k4 k6
      go_simp
      exact ⟨rfl, ⟨_, HKK.out.1, ⟨_, rfl, HKK.out.2.1⟩, HKK.out.2.2.1, HKK.out.2.2.2.1⟩, HKK.out.2.2.2.2.1, _, HKK.out.2.2.2.2.2⟩
    · intro vs W kk h1 h2 hW hd
      refine leaves_free rfl ?_
      clear hd
      go_simp
      exact ⟨rfl, Below.refl _ _⟩
  case gdone =>
    intro vs W hW hf
    have f0 : vs 0 = .agg #[.slice aL c.l.length cL, .int .i64 c.lo, .int .i64 c.un] := hf 0 (by decide)
    have f2 : vs 2 = .int .u32 st := hf 2 (by decide)
    have f3 : vs 3 = .int .u32 st := hf 3 (by decide)
    have f5 : vs 5 = .int .i64 (N : Int) := hf 5 (by decide)
    have f9 : vs 9 = .int .i64 0 := hf 9 (by decide)
    simp only [f0, f2, f3, f5, f9]
    clear f0 f2 f3 f5 f9
    obtain ⟨v, ⟨d1, d4, d6, rfl, k1, k4, k6⟩, ⟨cs, hcs, hq⟩, hbw, hown⟩ : ∃ v, SpN aL c.l.length cL c.lo c.un st N v W ∧ (∃ cs, v = .agg cs ∧ Bk W w.heap.size 31 cs) ∧ Below w.heap.size w W ∧ W.ownsRow y.heap.size 60 8 (.slice aL c.l.length cL) c.l.length (progC c.l) := hW
    injection hcs with hcs
    subst hcs
    generalize vs 1 = r1 at *
    generalize vs 4 = r4 at *
    generalize vs 6 = r6 at *
    generalize vs 7 = r7 at *
    clear hf HQ
    obtain ⟨y0, y1, y2, y3, y4, y5, y6⟩ : W.cell? ⟨w.heap.size, 0, none⟩ = some (.slice aL c.l.length cL) ∧ W.cell? ⟨w.heap.size, 1, none⟩ = some (.int .i64 c.lo) ∧ W.cell? ⟨w.heap.size, 2, none⟩ = some (.int .i64 c.un) ∧ W.cell? ⟨w.heap.size, 3, none⟩ = some (.slice (some ⟨d1, 0, none⟩) 2 2) ∧ W.cell? ⟨w.heap.size, 4, none⟩ = some (.slice (some ⟨d4, 0, none⟩) 2 2) ∧ W.cell? ⟨w.heap.size, 5, none⟩ = some (.int .i64 0) ∧ W.cell? ⟨w.heap.size, 6, none⟩ = some (.slice (some ⟨d6, 0, none⟩) N N) := ⟨hq.cell 0, hq.cell 1, hq.cell 2, hq.cell 3, hq.cell 4, hq.cell 5, hq.cell 6⟩
    have hpv := own_pv hown
    go_wp
    exact bodyPost_ret (v := .tuple #[.agg #[.slice aL c.l.length cL, .int .i64 c.lo, .int .i64 c.un, .slice (some ⟨d1, 0, none⟩) 2 2, .slice (some ⟨d4, 0, none⟩) 2 2, .int .i64 0, .slice (some ⟨d6, 0, none⟩) N N], .int .i64 0]) (by simp [results, Tryd.results4, go_sem, y0, y1, y2, y3, y4, y5, y6]) rfl ⟨_, rfl, ⟨aL, cL, _, 2, _, 2, _, N, by rw [show (tkR N).length = N from List.length_replicate]; rfl, hpv, given_two k1, given_two k4, given_zeros k6, by simp [maxLen], by simp [maxLen], by rw [show (tkR N).length = N from List.length_replicate]; unfold maxLen; omega⟩, hbw⟩
end Go.Proofs.YthdgehcghklflaaDoor

/- The document's run: words. -/
namespace Go.Proofs.YthdgehcghklflaaDoor
set_option maxRecDepth 100000
open Go.ChangeShapes Go.WideShapes Go.ChangeAt Go.RowKit
set_option linter.unusedVariables false

theorem below_drawnV (z : World) (n : Nat) : Below z.heap.size z (z.drewN n) := ⟨rfl, rfl, rfl, Nat.le_refl _, fun _ _ => rfl⟩
theorem take_same {xs ys : List Int} {j : Nat} (hj : j < xs.length) (hl : xs.length = ys.length) (h : xs.take j = ys.take j) (e : nth xs j = nth ys j) : xs.take (j + 1) = ys.take (j + 1) := by
  rw [take_at xs j hj, take_at ys j (by omega), h]
  rw [nth_lt hj, nth_lt (by omega)] at e
  rw [e]
theorem take_other {xs ys : List Int} {j : Nat} (e : nth xs j ≠ nth ys j) : xs ≠ ys := fun h => e (by rw [h])
set_option maxHeartbeats 2000000 in
theorem rWords32 (w : World) (a b : Option Addr) (ca cb : Nat) (xs ys : List Int) (ha : Given .u32 w a xs) (hb : Given .u32 w b ys) (hm : xs.length ≤ maxLen) (hm2 : ys.length ≤ maxLen) :
    Calls Tryd.prog 10 #[.slice a xs.length ca, .slice b ys.length cb] w fun e w' => e = .returned (.bool (decide (xs = ys))) ∧ Below w.heap.size w w' := by
  have HA := Lib.hid ha
  have HB := Lib.hid hb
  simp only [maxLen] at hm hm2
  clear ha hb
  by_cases hl : xs.length = ys.length
  · have HL := Lib.hid hl
    have dl : ((xs.length : Int) != (ys.length : Int)) = false := by rw [hl]; simp
    have HR : Hid (∀ v, decide (xs = ys) = v → (Ending.returned (.bool v) : Ending) = .returned (.bool (decide (xs = ys)))) := Lib.hid (fun v h => by rw [h])
    generalize hres : decide (xs = ys) = res at HR ⊢
    have HRes := Lib.hid hres
    clear hl hres
    go_enter Tryd.func10, Tryd.ntmps10
    go_wp2
    go_loopw [13] (fun x wr => ∃ (j : Nat), x = .int .i64 j ∧ j ≤ xs.length ∧ Hid (xs.take j = ys.take j) ∧ Below w.heap.size w wr) (fun x _ => xs.length - (intOf x).toNat)
    case atStart => exact ⟨0, rfl, Nat.zero_le _, Lib.hid rfl, Below.refl _ _⟩
    case round =>
      obtain ⟨j, rfl, hj, HT, hbl⟩ := hrel
      by_cases hlt : j < xs.length
      · have hji : (j : Int) < xs.length := by omega
        have hjy : (j : Int) < ys.length := by have := HL.out; omega
        obtain ⟨b1, o1, rfl, c1⟩ := HA.out.at_ hlt hbl
        obtain ⟨b2, o2, rfl, c2⟩ := HB.out.at_ (show j < ys.length by omega) hbl
        have HE := Lib.hid (fun e => take_same hlt HL.out HT.out e)
        have HN := Lib.hid (fun e => take_other (xs := xs) (ys := ys) (j := j) e)
        generalize nth xs j = x at *
        generalize nth ys j = y at *
        cases hq : (x != y) with
        | true =>
          have HV : Hid (res = false) := Lib.hid (by rw [← HRes.out]; exact decide_eq_false (HN.out (bne_iff_ne.1 hq)))
          clear HE HN HT
          go_upto_region 6 with fail
          go_quiet (fail)
          have hfin := hbl.trans ((below_drawnV wr nq).mono hbl.size)
          generalize wr.drewN nq = v at *
          go_wp2
          go_ret
          exact ⟨by rw [HV.out]; rfl, hfin⟩
        | false =>
          have HE2 := Lib.hid (HE.out (by simpa using hq))
          clear HE HN HT
          go_upto_region 6 with fail
          go_quiet (fail)
          have hfin := hbl.trans ((below_drawnV wr nq).mono hbl.size)
          generalize wr.drewN nq = v at *
          clear c1 c2 hbl
          go_wp2
          go_roundw
          case rel => exact ⟨j + 1, by go_num, by omega, HE2, hfin⟩
          case measure => simp [intOf]; omega
      · obtain rfl : j = xs.length := by omega
        have HV : Hid (res = true) := Lib.hid (by
          rw [← HRes.out]
          have h := HT.out
          rw [List.take_length, HL.out, List.take_length] at h
          exact decide_eq_true h)
        clear HT
        go_wp2
        go_ret
        exact ⟨by rw [HV.out]; rfl, hbl⟩
  · have dl : ((xs.length : Int) != (ys.length : Int)) = true := bne_iff_ne.2 (by omega)
    have HV : Hid (decide (xs = ys) = false) := Lib.hid (decide_eq_false (fun h => hl (by rw [h])))
    clear hl
    go_enter Tryd.func10, Tryd.ntmps10
    go_wp2
    go_ret
    exact ⟨by rw [HV.out]; rfl, Below.refl _ _⟩
end Go.Proofs.YthdgehcghklflaaDoor

/- asm.cutLast, asm.instOf. -/
namespace Go.Proofs.YthdgehcghklflaaDoor
open Go.ChangeShapes Go.WideShapes Go.ChangeAt Go.RowKit Go.Shelf
set_option linter.unusedVariables false

theorem at_bang (s : List UInt8) (j : Nat) (h : j < s.length) : (⟨s.toArray⟩ : ByteArray).data[j]! = s[j] := by
  simp [h]
theorem last_no (s : List UInt8) (h : Bf s) : Lib.lastIndexByte ⟨s.toArray⟩ 32 = -1 := by
  have hz : (⟨s.toArray⟩ : ByteArray).size = s.length := by show s.toArray.size = _; simp
  unfold Lib.lastIndexByte
  rw [hz]
  rcases Lib.lastIdx_spec ⟨s.toArray⟩ 32 s.length with ⟨e, -⟩ | ⟨i, hi, e, hc, -⟩
  · exact e
  · exfalso
    rw [at_bang s i hi] at hc
    exact h _ (List.getElem_mem hi) (UInt8.toNat_inj.1 (by simpa using Int.ofNat.inj hc))
theorem last_yes (a b : List UInt8) (h : Bf b) : Lib.lastIndexByte ⟨(a ++ 32 :: b).toArray⟩ 32 = a.length := by
  have hz : (⟨(a ++ 32 :: b).toArray⟩ : ByteArray).size = (a ++ 32 :: b).length := by show (a ++ 32 :: b).toArray.size = _; simp
  unfold Lib.lastIndexByte
  rw [hz]
  have hl : a.length < (a ++ 32 :: b).length := by simp
  have h32 : (((⟨(a ++ 32 :: b).toArray⟩ : ByteArray).data[a.length]!).toNat : Int) = 32 := by
    rw [at_bang _ _ hl]
    simp
  rcases Lib.lastIdx_spec ⟨(a ++ 32 :: b).toArray⟩ 32 (a ++ 32 :: b).length with ⟨e, hn⟩ | ⟨i, hi, e, hc, hn⟩
  · exact absurd h32 (hn _ hl)
  · rw [e]
    by_cases h1 : i < a.length
    · exact absurd h32 (hn _ h1 hl)
    by_cases h2 : a.length < i
    · exfalso
      rw [at_bang _ i hi] at hc
      have hm : (a ++ 32 :: b)[i] ∈ b := by
        rw [List.getElem_append_right (by omega)]
        obtain ⟨k, hk⟩ : ∃ k, i - a.length = k + 1 := ⟨i - a.length - 1, by omega⟩
        simp only [hk, List.getElem_cons_succ]
        exact List.getElem_mem _
      exact h _ hm (UInt8.toNat_inj.1 (by simpa using Int.ofNat.inj hc))
    · have : i = a.length := by omega
      rw [this]

theorem lLast (s : List UInt8) (hl : s.length < 1000000) (w : World) :
    Calls Tryd.prog 32 #[bs s, .int .u8 32] w fun e w' => e = .returned (.int .i64 (Lib.lastIndexByte ⟨s.toArray⟩ 32)) ∧ w = w' :=
  (Any.strings_LastIndexByte Tryd.lays149 ⟨s.toArray⟩ 32 (by show s.toArray.size < _; simp; omega) w).mono fun _ _ ⟨he, hw⟩ => ⟨he, hw.symm⟩

/-- What stands ahead of place n of a text, and from there on. -/
theorem run_ahead (s : List UInt8) (n : Nat) (h : n ≤ s.length) (w : World) : (Instr.slice 9 (.string ⟨s.toArray⟩) none (some (.int .i64 n)) none).run Tryd.prog w = .ok (.string ⟨(s.take n).toArray⟩) w := by
  have hu := Tryd.underlying9
  go_simp
  refine ByteArray.ext ?_
  rw [ByteArray.data_extract]
  apply Array.ext'
  simp
theorem run_from (s : List UInt8) (n : Nat) (h : n ≤ s.length) (w : World) : (Instr.slice 9 (.string ⟨s.toArray⟩) (some (.int .i64 n)) none none).run Tryd.prog w = .ok (.string ⟨(s.drop n).toArray⟩) w := by
  have hu := Tryd.underlying9
  go_simp
  refine ByteArray.ext ?_
  rw [ByteArray.data_extract]
  apply Array.ext'
  simp
  try exact List.take_of_length_le (by simp)

theorem cutLast_is (s : List UInt8) : ∃ n : Nat, n ≤ s.length ∧ Lib.lastIndexByte ⟨s.toArray⟩ 32 + 1 = n ∧ -1 ≤ Lib.lastIndexByte ⟨s.toArray⟩ 32 ∧ s.take n = headW s ∧ s.drop n = lastW s := by
  rcases last_blank s with h | ⟨a, b, hb, rfl⟩
  · refine ⟨0, by omega, by rw [last_no s h]; rfl, by rw [last_no s h]; omega, ?_, ?_⟩
    · unfold headW lastW
      rw [wordsL_one s h]
      simp
    · unfold lastW
      rw [wordsL_one s h]
      simp
  · refine ⟨a.length + 1, by simp, by rw [last_yes a b hb]; rfl, by rw [last_yes a b hb]; omega, ?_, ?_⟩
    · rw [headW_cat a b hb, show a ++ 32 :: b = (a ++ [32]) ++ b by simp, show a.length + 1 = (a ++ [32]).length by simp, List.take_left]
    · rw [lastW_cat a b hb, show a ++ 32 :: b = (a ++ [32]) ++ b by simp, show a.length + 1 = (a ++ [32]).length by simp, List.drop_left]

theorem cCutLast (s : List UInt8) (hl : s.length < 1000000) (w : World) :
    Calls Tryd.prog 27 #[bs s] w fun e w' => e = .returned (.tuple #[bs (headW s), bs (lastW s)]) ∧ Below w.heap.size w w' := by
  obtain ⟨n, hn, he, h0, h1, h2⟩ := cutLast_is s
  have HL := Lib.hid (fun W => lLast s hl W)
  have r1 := run_ahead s n hn
  have r2 := run_from s n hn
  rw [← h1, ← h2]
  have hwr : wrap64 (Lib.lastIndexByte ⟨s.toArray⟩ 32 + 1) = (n : Int) := by rw [he]; unfold wrap64; omega
  have HE := Lib.hid he
  clear he h1 h2
  generalize Lib.lastIndexByte ⟨s.toArray⟩ 32 = i at *
  unfold bs
  go_enter Tryd.func27, Tryd.ntmps27
  go_wp2_with fail
  refine (HL.out _).mono ?_
  rintro e w' ⟨rfl, rfl⟩
  go_wp2
  go_region
  go_wp2
  go_ret2
  exact ⟨rfl, (Below.refl _ _).drew⟩

/-- What inst.Parse answers is what the document reads. -/
theorem prs_prog (s : List UInt8) : prs s = if parseB s = true then some (parsedI s) else none := by
  by_cases h : parseB s = true
  · rw [if_pos h, prs_iff]
    have h2 := h
    unfold parseB at h2
    simp only [Bool.and_eq_true, decide_eq_true_eq] at h2
    have hw : (parsedI s).Wf := draft_wf _
    exact ⟨h2.1, hw.k0, hw.k1, h2.2⟩
  · rw [if_neg h]
    cases hp : prs s with
    | none => rfl
    | some i =>
      obtain ⟨h1, h2, h3, rfl⟩ := (prs_iff _ _).1 hp
      exact absurd (parse_text i h1 h2 h3).1 h
/-- What Parse answers, by what is read. -/
def parsV : Option Ins → Value
  | some i => .tuple #[iv i, .int .i64 0]
  | none => .tuple #[iv Ins.zero, .int .i64 8]
theorem parseV_prs (s : List UInt8) : parseV s = parsV (prs s) := by
  unfold parseV parsV
  rw [prs_prog]
  by_cases h : parseB s = true
  · simp [h]
  · simp [h]
theorem prs_right {s : List UInt8} {i : Ins} (h : prs s = some i) : rightB i 1073741824 = true := ((prs_iff _ _).1 h).1
theorem right_at_pl {i : Ins} {p : Int} (hr : rightB i p = true) (h : i.op = 21) : -1 ≤ i.pl := by
  obtain ⟨op, d, s, t, u, a, k, pl⟩ := i
  simp only at h
  subst h
  unfold rightB at hr
  simp [hsL, inB, lowI, endI, getI] at hr
  show -1 ≤ pl
  omega
theorem place_goes {i : Ins} {p : Int} (hr : rightB i p = true) : placeB i = goesB i := by
  unfold placeB goesB
  have h := fun e => right_at_pl hr e
  rw [Bool.eq_iff_iff]
  simp only [Bool.or_eq_true, Bool.and_eq_true, decide_eq_true_eq]
  constructor
  · rintro (e | ⟨e, e2⟩)
    · left; omega
    · right; have := h e; exact ⟨e, by omega⟩
  · rintro (e | ⟨e, e2⟩)
    · left; omega
    · right; exact ⟨e, by omega⟩

/-- What instOf answers. -/
def instOfV (s : List UInt8) : Value := match lineL s with
  | some (i, nm) => .tuple #[iv i, bs nm, .bool true]
  | none => .tuple #[iv Ins.zero, bs [], .bool false]
def tailV : Option Ins → Value
  | some j => if placeB j = true then .tuple #[iv Ins.zero, bs [], .bool false] else .tuple #[iv j, bs [], .bool true]
  | none => .tuple #[iv Ins.zero, bs [], .bool false]
def headV (la : List UInt8) (t : Value) : Option Ins → Value
  | some i => if placeB i = true then .tuple #[iv i, bs la, .bool true] else t
  | none => t
/-- .. in its own order. -/
theorem instOf_is (s : List UInt8) : instOfV s = headV (lastW s) (tailV (prs s)) (if nameB (lastW s) = true then prs (headW s ++ [48]) else none) := by
  unfold headV tailV
  unfold instOfV lineL
  by_cases hn : nameB (lastW s) = true
  · simp only [hn, if_true, and_true]
    cases h1 : prs (headW s ++ [48]) with
    | none =>
      cases h2 : prs s with
      | none => simp
      | some j =>
        have := place_goes (prs_right h2)
        by_cases hg : goesB j = true <;> simp [this, hg]
    | some i =>
      have e1 := place_goes (prs_right h1)
      by_cases hi : goesB i = true
      · simp [e1, hi]
      · cases h2 : prs s with
        | none => simp [e1, hi]
        | some j =>
          have := place_goes (prs_right h2)
          by_cases hg : goesB j = true <;> simp [e1, hi, this, hg]
  · simp only [hn]
    cases h1 : prs (headW s ++ [48]) <;> cases h2 : prs s with
    | none => simp
    | some j =>
      have := place_goes (prs_right h2)
      by_cases hg : goesB j = true <;> simp [this, hg]

set_option maxHeartbeats 2000000 in
theorem cInstOf (s : List UInt8) (hl : s.length < 100000) (w : World) (L : Lb w) :
    Calls Tryd.prog 21 #[bs s] w fun e w' => e = .returned (instOfV s) ∧ Below w.heap.size w w' := by
  have hh : (headW s).length ≤ s.length := by unfold headW; simp
  have hc := cat_bs (headW s) [48]
  have hc2 : ¬ 9223372036854775807 < (headW s).length + 1 := by omega
  have HC := Lib.hid (fun W => cCutLast s (by omega) W)
  have HN := Lib.hid (fun W => cIsName (lastW s) W)
  have HP0 := Lib.hid (fun W LW => cParse (headW s ++ [48]) (by simp; omega) W LW)
  have HP := Lib.hid (fun W LW => cParse s (by omega) W LW)
  have HE := Lib.hid (instOf_is s)
  rw [parseV_prs] at HP0 HP
  have HL := Lib.hid (fun (W : World) (h : Below w.heap.size w W) => L.below h)
  generalize instOfV s = res at *
  generalize hA : headW s = hd at *
  generalize hB : lastW s = la at *
  clear hA hB hh L
  generalize prs (hd ++ [48]) = p0 at *
  generalize prs s = p1 at *
  unfold bs
  go_enter Tryd.func21, Tryd.ntmps21
  go_wp2_with fail
  have b1 : Below w.heap.size w (w.alloc (.cells #[.int .i64 0, .int .i64 0, .int .i64 0, .int .i64 0, .int .i64 0, .int .i64 0, .int .u32 0, .int .i64 0] 60)) := (Below.refl _ _).alloc (Nat.le_refl _) _
  have m1 : Ib (w.alloc (.cells #[.int .i64 0, .int .i64 0, .int .i64 0, .int .i64 0, .int .i64 0, .int .i64 0, .int .u32 0, .int .i64 0] 60)) w.heap.size Ins.zero := Bk.made _ _ _
  generalize w.alloc (.cells #[.int .i64 0, .int .i64 0, .int .i64 0, .int .i64 0, .int .i64 0, .int .i64 0, .int .u32 0, .int .i64 0] 60) = x1 at *
  refine (HC.out x1).mono ?_
  rintro e x2 ⟨rfl, b2⟩
  replace m1 := m1.below b2
  replace b2 := b1.trans (b2.mono b1.size)
  clear b1 x1
  unfold bs
  go_wp2_with fail
  refine (HN.out x2).mono ?_
  rintro e x3 ⟨rfl, b3⟩
  replace m1 := m1.below b3
  replace b3 := b2.trans (b3.mono b2.size)
  clear b2 x2
  have HT : Hid (∀ i, p0 = some i → nameB la = true → placeB i = true → res = .tuple #[iv i, bs la, .bool true]) := Lib.hid fun i h1 h2 h3 => by
    rw [HE.out, h1, h2]; simp [headV, h3]
  have HU : Hid ((nameB la = true → p0 = none ∨ ∃ i, p0 = some i ∧ placeB i = false) → res = tailV p1) := Lib.hid fun h => by
    rw [HE.out]
    by_cases hn : nameB la = true
    · rcases h hn with e | ⟨i, e, e2⟩
      · rw [e]; simp [headV]
      · rw [e, if_pos hn]; simp [headV, e2]
    · rw [if_neg hn]; rfl
  clear HE HC HN
  have hp : Hid (∀ (i : Ins) (W : World), Calls Tryd.prog 29 #[iv i] W fun e w' => e = .returned (.bool (placeB i)) ∧ Below W.heap.size W w') := Lib.hid fun i W => cHasPlace i W
  rcases hn : nameB la
  case' false =>
    replace HU := Lib.hid (HU.out (by rw [hn]; simp))
    clear hn HT HP0 hc hc2
    go_wp2_with fail
    have bb := b3
    clear b3
  case' true =>
    go_wp2_with fail
    refine (HP0.out x3 (HL.out _ b3)).mono ?_
    rintro e x4 ⟨rfl, b4⟩
    replace m1 := m1.below b4
    replace b4 := b3.trans (b4.mono b3.size)
    clear b3 x3 HP0
    rcases p0 with _ | ⟨op, d, s', t, u, a, k, pl⟩
    case' none =>
      replace HU := Lib.hid (HU.out (by simp))
      clear HT hn
      rw [show parsV none = .tuple #[.agg #[.int .i64 0, .int .i64 0, .int .i64 0, .int .i64 0, .int .i64 0, .int .i64 0, .int .u32 0, .int .i64 0], .int .i64 8] from rfl]
      go_wp2_with fail
      replace m1 : Ib (x4.alloc (.cells #[.int .i64 0, .int .i64 0, .int .i64 0, .int .i64 0, .int .i64 0, .int .i64 0, .int .u32 0, .int .i64 0] 60)) w.heap.size Ins.zero := Bk.alloc m1 _
      have bb := b4.alloc (o := .cells #[.int .i64 0, .int .i64 0, .int .i64 0, .int .i64 0, .int .i64 0, .int .i64 0, .int .u32 0, .int .i64 0] 60) b4.size
      clear b4
      generalize x4.alloc (.cells #[.int .i64 0, .int .i64 0, .int .i64 0, .int .i64 0, .int .i64 0, .int .i64 0, .int .u32 0, .int .i64 0] 60) = x3 at *
    case' some =>
      rw [show parsV (some ⟨op, d, s', t, u, a, k, pl⟩) = .tuple #[.agg #[.int .i64 op, .int .i64 d, .int .i64 s', .int .i64 t, .int .i64 u, .int .i64 a, .int .u32 k, .int .i64 pl], .int .i64 0] from rfl]
      go_upto_region 4 with fail
      have m2 := Ib.made x4 op d s' t u a k pl
      have hne : w.heap.size ≠ x4.heap.size := Nat.ne_of_lt (Bk.lt m1)
      replace m1 : Ib (x4.alloc (.cells #[.int .i64 op, .int .i64 d, .int .i64 s', .int .i64 t, .int .i64 u, .int .i64 a, .int .u32 k, .int .i64 pl] 60)) w.heap.size Ins.zero := Bk.alloc m1 _
      replace b4 := b4.alloc (o := .cells #[.int .i64 op, .int .i64 d, .int .i64 s', .int .i64 t, .int .i64 u, .int .i64 a, .int .u32 k, .int .i64 pl] 60) b4.size
      generalize x4.heap.size = g at *
      generalize x4.alloc (.cells #[.int .i64 op, .int .i64 d, .int .i64 s', .int .i64 t, .int .i64 u, .int .i64 a, .int .u32 k, .int .i64 pl] 60) = x3 at *
      obtain ⟨c0, c1, c2, c3, c4, c5, c6, c7⟩ := m2.cells
      simp only at c0 c1 c2 c3 c4 c5 c6 c7
      go_wp2_with fail
      refine (hp.out ⟨op, d, s', t, u, a, k, pl⟩ x3).mono ?_
      rintro e x5 ⟨rfl, b5⟩
      replace m1 := m1.below b5
      replace m2 := m2.below b5
      have bb := b4.trans (b5.mono b4.size)
      clear c0 c1 c2 c3 c4 c5 c6 c7 b4 b5 x3
      rcases hq : placeB ⟨op, d, s', t, u, a, k, pl⟩
      case' false =>
        replace HU := Lib.hid (HU.out fun _ => .inr ⟨_, rfl, hq⟩)
        clear HT hn hq m2
        go_wp2_with fail
      case' true =>
        replace HT := Lib.hid (HT.out _ rfl hn hq)
        clear HU hn hq HP hp
        obtain ⟨c0, c1, c2, c3, c4, c5, c6, c7⟩ := m2.cells
        simp only at c0 c1 c2 c3 c4 c5 c6 c7
        obtain ⟨r0, r1, r2, r3, r4, r5, r6, r7⟩ := m1.cells
        have hfR := Bk.free m1
        unfold Ins.zero at r0 r1 r2 r3 r4 r5 r6 r7
        simp only at r0 r1 r2 r3 r4 r5 r6 r7
        go_wp2
        generalize hv : ((((((((x5.setCell ⟨w.heap.size, 0, none⟩ (.int .i64 op)).setCell ⟨w.heap.size, 1, none⟩ (.int .i64 d)).setCell ⟨w.heap.size, 2, none⟩ (.int .i64 s')).setCell ⟨w.heap.size, 3, none⟩ (.int .i64 t)).setCell ⟨w.heap.size, 4, none⟩ (.int .i64 u)).setCell ⟨w.heap.size, 5, none⟩ (.int .i64 a)).setCell ⟨w.heap.size, 6, none⟩ (.int .u32 k)).setCell ⟨w.heap.size, 7, none⟩ (.int .i64 pl)) = v9
        have hv2 : put8 x5 w.heap.size ⟨op, d, s', t, u, a, k, pl⟩ = v9 := hv
        clear hv
        have hA := put8_ib (i := ⟨op, d, s', t, u, a, k, pl⟩) m1
        have hC := put8_below (i := ⟨op, d, s', t, u, a, k, pl⟩) bb (Nat.le_refl _)
        rw [hv2] at hA hC
        clear hv2
        obtain ⟨q0, q1, q2, q3, q4, q5, q6, q7⟩ := hA.cells
        simp only at q0 q1 q2 q3 q4 q5 q6 q7
        refine bodyPost_ret (v := .tuple #[.agg #[.int .i64 op, .int .i64 d, .int .i64 s', .int .i64 t, .int .i64 u, .int .i64 a, .int .u32 k, .int .i64 pl], .string ⟨la.toArray⟩, .bool true]) (by simp [results, Tryd.results21, go_sem, q0, q1, q2, q3, q4, q5, q6, q7]) rfl ⟨?_, hC⟩
        rw [HT.out]; rfl
  all_goals (
    refine (HP.out _ (HL.out _ bb)).mono ?_
    rintro e y ⟨rfl, hby⟩
    replace m1 := m1.below hby
    replace bb := bb.trans (hby.mono bb.size)
    clear hby HP
    obtain ⟨r0, r1, r2, r3, r4, r5, r6, r7⟩ := m1.cells
    have hfR := Bk.free m1
    unfold Ins.zero at r0 r1 r2 r3 r4 r5 r6 r7
    simp only at r0 r1 r2 r3 r4 r5 r6 r7
    rcases p1 with _ | ⟨op, d, s', t, u, a, k, pl⟩
    · rw [show parsV none = .tuple #[.agg #[.int .i64 0, .int .i64 0, .int .i64 0, .int .i64 0, .int .i64 0, .int .i64 0, .int .u32 0, .int .i64 0], .int .i64 8] from rfl]
      go_upto_region 7 with fail
      generalize hv : ((((((((y.setCell ⟨w.heap.size, 0, none⟩ (.int .i64 0)).setCell ⟨w.heap.size, 1, none⟩ (.int .i64 0)).setCell ⟨w.heap.size, 2, none⟩ (.int .i64 0)).setCell ⟨w.heap.size, 3, none⟩ (.int .i64 0)).setCell ⟨w.heap.size, 4, none⟩ (.int .i64 0)).setCell ⟨w.heap.size, 5, none⟩ (.int .i64 0)).setCell ⟨w.heap.size, 6, none⟩ (.int .u32 0)).setCell ⟨w.heap.size, 7, none⟩ (.int .i64 0)) = y2
      have hv2 : put8 y w.heap.size ⟨0, 0, 0, 0, 0, 0, 0, 0⟩ = y2 := hv
      clear hv
      replace m1 := put8_ib (i := ⟨0, 0, 0, 0, 0, 0, 0, 0⟩) m1
      replace bb := put8_below (i := ⟨0, 0, 0, 0, 0, 0, 0, 0⟩) bb (Nat.le_refl _)
      rw [hv2] at m1 bb
      clear hv2 r0 r1 r2 r3 r4 r5 r6 r7 hfR
      obtain ⟨r0, r1, r2, r3, r4, r5, r6, r7⟩ := m1.cells
      have hfR := Bk.free m1
      simp only at r0 r1 r2 r3 r4 r5 r6 r7
      go_wp2
      generalize hv : ((((((((y2.setCell ⟨w.heap.size, 0, none⟩ (.int .i64 0)).setCell ⟨w.heap.size, 1, none⟩ (.int .i64 0)).setCell ⟨w.heap.size, 2, none⟩ (.int .i64 0)).setCell ⟨w.heap.size, 3, none⟩ (.int .i64 0)).setCell ⟨w.heap.size, 4, none⟩ (.int .i64 0)).setCell ⟨w.heap.size, 5, none⟩ (.int .i64 0)).setCell ⟨w.heap.size, 6, none⟩ (.int .u32 0)).setCell ⟨w.heap.size, 7, none⟩ (.int .i64 0)) = v9
      have hv2 : put8 y2 w.heap.size ⟨0, 0, 0, 0, 0, 0, 0, 0⟩ = v9 := hv
      clear hv
      have hA := put8_ib (i := ⟨0, 0, 0, 0, 0, 0, 0, 0⟩) m1
      have hC := put8_below (i := ⟨0, 0, 0, 0, 0, 0, 0, 0⟩) bb (Nat.le_refl _)
      rw [hv2] at hA hC
      clear hv2
      obtain ⟨q0, q1, q2, q3, q4, q5, q6, q7⟩ := hA.cells
      simp only at q0 q1 q2 q3 q4 q5 q6 q7
      refine bodyPost_ret (v := .tuple #[.agg #[.int .i64 0, .int .i64 0, .int .i64 0, .int .i64 0, .int .i64 0, .int .i64 0, .int .u32 0, .int .i64 0], .string ⟨#[]⟩, .bool false]) (by simp [results, Tryd.results21, go_sem, q0, q1, q2, q3, q4, q5, q6, q7]) rfl ⟨?_, hC⟩
      rw [HU.out]; rfl
    · rw [show parsV (some ⟨op, d, s', t, u, a, k, pl⟩) = .tuple #[.agg #[.int .i64 op, .int .i64 d, .int .i64 s', .int .i64 t, .int .i64 u, .int .i64 a, .int .u32 k, .int .i64 pl], .int .i64 0] from rfl]
      go_upto_region 7 with fail
      generalize hv : ((((((((y.setCell ⟨w.heap.size, 0, none⟩ (.int .i64 op)).setCell ⟨w.heap.size, 1, none⟩ (.int .i64 d)).setCell ⟨w.heap.size, 2, none⟩ (.int .i64 s')).setCell ⟨w.heap.size, 3, none⟩ (.int .i64 t)).setCell ⟨w.heap.size, 4, none⟩ (.int .i64 u)).setCell ⟨w.heap.size, 5, none⟩ (.int .i64 a)).setCell ⟨w.heap.size, 6, none⟩ (.int .u32 k)).setCell ⟨w.heap.size, 7, none⟩ (.int .i64 pl)) = y2
      have hv2 : put8 y w.heap.size ⟨op, d, s', t, u, a, k, pl⟩ = y2 := hv
      clear hv
      replace m1 := put8_ib (i := ⟨op, d, s', t, u, a, k, pl⟩) m1
      replace bb := put8_below (i := ⟨op, d, s', t, u, a, k, pl⟩) bb (Nat.le_refl _)
      rw [hv2] at m1 bb
      clear hv2 r0 r1 r2 r3 r4 r5 r6 r7 hfR
      obtain ⟨r0, r1, r2, r3, r4, r5, r6, r7⟩ := m1.cells
      simp only at r0 r1 r2 r3 r4 r5 r6 r7
      go_wp2_with fail
      refine (hp.out ⟨op, d, s', t, u, a, k, pl⟩ _).mono ?_
      rintro e y3 ⟨rfl, hby⟩
      replace m1 := m1.below hby
      replace bb := bb.trans (hby.mono bb.size)
      clear hby r0 r1 r2 r3 r4 r5 r6 r7
      obtain ⟨r0, r1, r2, r3, r4, r5, r6, r7⟩ := m1.cells
      have hfR := Bk.free m1
      simp only at r0 r1 r2 r3 r4 r5 r6 r7
      cases hq : placeB ⟨op, d, s', t, u, a, k, pl⟩ with
      | true =>
        go_wp2
        generalize hv : ((((((((y3.setCell ⟨w.heap.size, 0, none⟩ (.int .i64 0)).setCell ⟨w.heap.size, 1, none⟩ (.int .i64 0)).setCell ⟨w.heap.size, 2, none⟩ (.int .i64 0)).setCell ⟨w.heap.size, 3, none⟩ (.int .i64 0)).setCell ⟨w.heap.size, 4, none⟩ (.int .i64 0)).setCell ⟨w.heap.size, 5, none⟩ (.int .i64 0)).setCell ⟨w.heap.size, 6, none⟩ (.int .u32 0)).setCell ⟨w.heap.size, 7, none⟩ (.int .i64 0)) = v9
        have hv2 : put8 y3 w.heap.size ⟨0, 0, 0, 0, 0, 0, 0, 0⟩ = v9 := hv
        clear hv
        have hA := put8_ib (i := ⟨0, 0, 0, 0, 0, 0, 0, 0⟩) m1
        have hC := put8_below (i := ⟨0, 0, 0, 0, 0, 0, 0, 0⟩) bb (Nat.le_refl _)
        rw [hv2] at hA hC
        clear hv2
        obtain ⟨q0, q1, q2, q3, q4, q5, q6, q7⟩ := hA.cells
        simp only at q0 q1 q2 q3 q4 q5 q6 q7
        refine bodyPost_ret (v := .tuple #[.agg #[.int .i64 0, .int .i64 0, .int .i64 0, .int .i64 0, .int .i64 0, .int .i64 0, .int .u32 0, .int .i64 0], .string ⟨#[]⟩, .bool false]) (by simp [results, Tryd.results21, go_sem, q0, q1, q2, q3, q4, q5, q6, q7]) rfl ⟨?_, hC⟩
        rw [HU.out, tailV, if_pos hq]; rfl
      | false =>
        go_wp2
        generalize hv : ((((((((y3.setCell ⟨w.heap.size, 0, none⟩ (.int .i64 op)).setCell ⟨w.heap.size, 1, none⟩ (.int .i64 d)).setCell ⟨w.heap.size, 2, none⟩ (.int .i64 s')).setCell ⟨w.heap.size, 3, none⟩ (.int .i64 t)).setCell ⟨w.heap.size, 4, none⟩ (.int .i64 u)).setCell ⟨w.heap.size, 5, none⟩ (.int .i64 a)).setCell ⟨w.heap.size, 6, none⟩ (.int .u32 k)).setCell ⟨w.heap.size, 7, none⟩ (.int .i64 pl)) = v9
        have hv2 : put8 y3 w.heap.size ⟨op, d, s', t, u, a, k, pl⟩ = v9 := hv
        clear hv
        have hA := put8_ib (i := ⟨op, d, s', t, u, a, k, pl⟩) m1
        have hC := put8_below (i := ⟨op, d, s', t, u, a, k, pl⟩) bb (Nat.le_refl _)
        rw [hv2] at hA hC
        clear hv2
        obtain ⟨q0, q1, q2, q3, q4, q5, q6, q7⟩ := hA.cells
        simp only at q0 q1 q2 q3 q4 q5 q6 q7
        refine bodyPost_ret (v := .tuple #[.agg #[.int .i64 op, .int .i64 d, .int .i64 s', .int .i64 t, .int .i64 u, .int .i64 a, .int .u32 k, .int .i64 pl], .string ⟨#[]⟩, .bool true]) (by simp [results, Tryd.results21, go_sem, q0, q1, q2, q3, q4, q5, q6, q7]) rfl ⟨?_, hC⟩
        rw [HU.out, tailV, if_neg (by rw [hq]; simp)]; rfl)
end Go.Proofs.YthdgehcghklflaaDoor

/- (*draft).add: one line. -/
namespace Go.Proofs.YthdgehcghklflaaDoor
open Go.ChangeShapes Go.WideShapes Go.ChangeAt Go.RowKit Go.Shelf
set_option linter.unusedVariables false

theorem lb_snoc (t : List UInt8) : lbB (t ++ [58]) = nameB t := by
  unfold lbB
  simp
theorem lb_not {s : List UInt8} (h : ∀ t, s ≠ t ++ [58]) : lbB s = false := by
  rw [Bool.eq_false_iff]
  intro e
  unfold lbB at e
  simp only [Bool.and_eq_true, decide_eq_true_eq, Bool.not_eq_true', List.isEmpty_eq_false_iff] at e
  obtain ⟨h1, h2, _⟩ := e
  refine h s.dropLast ?_
  have := List.dropLast_concat_getLast h1
  have h3 : (s.dropLast ++ [s.getLast h1]).getLastD 0 = 58 := by rw [this]; exact h2
  simp at h3
  rw [h3] at this
  exact this.symm

/-- Behind a line: the error, the labels, the rows. -/
def addL (s : List UInt8) (n : Int) (ls : List (List UInt8 × Int)) (rs : List Rw) : Int × List (List UInt8 × Int) × List Rw :=
  if lbB s = true then (if labB ls s.dropLast = true then (2, ls, rs) else (0, ls ++ [(s.dropLast, (rs.length : Int))], rs))
  else match lineL s with
    | none => (8, ls, rs)
    | some (i, nm) => if 64 ≤ rs.length then (9, ls, rs) else (0, ls, rs ++ [(i, nm, n)])
section
variable {w : World} {p m lo : Nat} {ls : List (List UInt8 × Int)} {rs : List Rw}
theorem cAddEnd (h : Dr w p m lo ls rs) (s : List UInt8) (hs : ∀ t, s ≠ t ++ [10]) (hl : s.length < 100000) (n : Int) :
    Calls Tryd.prog 13 #[.pointer (some ⟨p, 0, none⟩), .int .i64 n, bs s] w fun e w' => e = .returned (.int .i64 8) ∧ w = w' := by
  have HC := Lib.hid (fun W => lCut s [10] (by omega) W)
  rw [(suf_no hs).1, (suf_no hs).2] at HC
  unfold bs
  go_enter Tryd.func13, Tryd.ntmps13
  go_wp2_with fail
  refine (HC.out _).mono ?_
  rintro e w' ⟨rfl, rfl⟩
  unfold bs
  go_wp2
  go_ret
  exact ⟨rfl, rfl⟩

/-- What add leaves. -/
def Added (w : World) (p m lo : Nat) (q : Int × List (List UInt8 × Int) × List Rw) (e : Ending) (w' : World) : Prop := e = .returned (.int .i64 q.1) ∧ Dr w' p m lo q.2.1 q.2.2 ∧ Within w w' (InDr p m lo)

set_option maxHeartbeats 1000000 in
theorem cAddA (h : Dr w p m lo ls rs) (hlo : lo ≤ w.heap.size) (L : Lb w) (s : List UInt8) (hl : s.length < 90000) (n : Int) (hls : ls.length < 1000000) (hrs : rs.length ≤ 64) :
    Calls Tryd.prog 13 #[.pointer (some ⟨p, 0, none⟩), .int .i64 n, bs (s ++ [10])] w (Added w p m lo (addL s n ls rs)) := by
  have HC := Lib.hid (fun W => lCut (s ++ [10]) [10] (by simp; omega) W)
  rw [(suf_yes s 10).1, (suf_yes s 10).2] at HC
  have HK := Lib.hid (fun W => lCut s [58] (by omega) W)
  have HI := Lib.hid (fun W LW => cInstOf s (by omega) W LW)
  have HB : Hid (∀ W, Below w.heap.size w W → Dr W p m lo ls rs ∧ Within w W (InDr p m lo)) := Lib.hid fun W hW => ⟨h.within (within_of_below hW) (by simp) (by simp) (by simp), (within_of_below hW).wide (by simp)⟩
  have HLB := Lib.hid (fun W (hW : Below w.heap.size w W) => L.below hW)
  rcases suf_or s 58 with ⟨nm, hnm⟩ | hno
  case' inl =>
    have e1 := (suf_yes nm 58).1
    have e2 := (suf_yes nm 58).2
    rw [← hnm] at e1 e2
    rw [e1, e2] at HK
    have HN := Lib.hid (fun W => cIsName nm W)
    have hlb : lbB s = nameB nm := by rw [hnm]; exact lb_snoc nm
    have hdl : s.dropLast = nm := by rw [hnm]; simp
    have HD := Lib.hid hdl
    have hnl : nm.length ≤ 1000000 := by rw [hnm] at hl; simp at hl; omega
    clear e1 e2 hdl
    clear hnm
    unfold bs
    go_enter Tryd.func13, Tryd.ntmps13
    go_wp2_with fail
    refine (HC.out _).mono ?_
    rintro e w' ⟨rfl, rfl⟩
    unfold bs
    go_wp2_with fail
    refine (HK.out _).mono ?_
    rintro e w' ⟨rfl, rfl⟩
    unfold bs
    go_wp2_with fail
    refine (HN.out _).mono ?_
    rintro e x ⟨rfl, bb⟩
    rcases hq : nameB nm
    case' true =>
      rw [hq] at hlb
      have HLBL := Lib.hid hlb
      clear HI HC HK HN hq hlb
      obtain ⟨hD, hW⟩ := HB.out x bb
      rcases hk : labB ls nm
      · have HA := Lib.hid (cAddLabel hD nm hnl hls hrs hk)
        go_wp2_with fail
        refine HA.out.mono ?_
        rintro e y ⟨rfl, hD2, hW2⟩
        go_wp2
        go_ret
        have : addL s n ls rs = (0, ls ++ [(nm, (rs.length : Int))], rs) := by
          unfold addL
          rw [if_pos HLBL.out, HD.out, if_neg (by rw [hk]; simp)]
        unfold Added
        rw [this]
        exact ⟨rfl, hD2, hW.then_ hW2 fun i hi => .inl hi⟩
      · have HA := Lib.hid (cAddLabelNo hD nm hnl hk)
        go_wp2_with fail
        refine HA.out.mono ?_
        rintro e y ⟨rfl, rfl⟩
        go_wp2
        go_ret
        have : addL s n ls rs = (2, ls, rs) := by
          unfold addL
          rw [if_pos HLBL.out, HD.out, if_pos hk]
        unfold Added
        rw [this]
        exact ⟨rfl, hD, hW⟩
    case' false =>
      rw [hq] at hlb
      have HLBL := Lib.hid hlb
      clear HC HK HN hq hlb HD
      go_wp2_with fail
  case' inr =>
    rw [(suf_no hno).1, (suf_no hno).2] at HK
    have HLBL := Lib.hid (lb_not hno)
    clear hno
    unfold bs
    go_enter Tryd.func13, Tryd.ntmps13
    go_wp2_with fail
    refine (HC.out _).mono ?_
    rintro e w' ⟨rfl, rfl⟩
    unfold bs
    go_wp2_with fail
    refine (HK.out _).mono ?_
    rintro e w' ⟨rfl, rfl⟩
    unfold bs
    have bb := Below.refl w.heap.size w
    clear HC HK
    go_wp2_with fail
  all_goals (
    refine (HI.out _ (HLB.out _ bb)).mono ?_
    rintro e y ⟨rfl, hby⟩
    replace bb := bb.trans (hby.mono bb.size)
    clear hby HI
    rcases hq : lineL s with _ | ⟨⟨op, d, s', t, u, a, k, pl⟩, nm2⟩
    · have e : instOfV s = .tuple #[.agg #[.int .i64 0, .int .i64 0, .int .i64 0, .int .i64 0, .int .i64 0, .int .i64 0, .int .u32 0, .int .i64 0], .string ⟨#[]⟩, .bool false] := by unfold instOfV; rw [hq]; rfl
      have ea : addL s n ls rs = (8, ls, rs) := by unfold addL; rw [if_neg (by rw [HLBL.out]; simp), hq]
      have EA := Lib.hid ea
      rw [e]
      clear e hq HLBL ea
      go_wp2
      go_ret
      unfold Added
      rw [EA.out]
      exact ⟨rfl, HB.out _ (bb.alloc bb.size _)⟩
    · have e : instOfV s = .tuple #[.agg #[.int .i64 op, .int .i64 d, .int .i64 s', .int .i64 t, .int .i64 u, .int .i64 a, .int .u32 k, .int .i64 pl], .string ⟨nm2.toArray⟩, .bool true] := by unfold instOfV; rw [hq]; rfl
      have ea : addL s n ls rs = if 64 ≤ rs.length then (9, ls, rs) else (0, ls, rs ++ [(⟨op, d, s', t, u, a, k, pl⟩, nm2, n)]) := by unfold addL; rw [if_neg (by rw [HLBL.out]; simp), hq]
      have EA := Lib.hid ea
      rw [e]
      clear e hq HLBL ea
      go_upto_region 8 with fail
      have m2 := Ib.made y op d s' t u a k pl
      replace bb := bb.alloc (o := .cells #[.int .i64 op, .int .i64 d, .int .i64 s', .int .i64 t, .int .i64 u, .int .i64 a, .int .u32 k, .int .i64 pl] 60) bb.size
      generalize y.heap.size = g at *
      generalize y.alloc (.cells #[.int .i64 op, .int .i64 d, .int .i64 s', .int .i64 t, .int .i64 u, .int .i64 a, .int .u32 k, .int .i64 pl] 60) = x3 at *
      obtain ⟨c0, c1, c2, c3, c4, c5, c6, c7⟩ := m2.cells
      simp only at c0 c1 c2 c3 c4 c5 c6 c7
      obtain ⟨hD, hW⟩ := HB.out x3 bb
      go_wp2_with fail
      by_cases h64 : rs.length < 64
      · refine (cAddRow hD h64 (Nat.le_trans hlo bb.size) (⟨op, d, s', t, u, a, k, pl⟩, nm2, n)).mono ?_
        rintro e z ⟨rfl, hD2, hW2⟩
        go_wp2
        go_ret
        unfold Added
        rw [EA.out, if_neg (by omega)]
        exact ⟨rfl, hD2, hW.then_ hW2 fun i hi => .inl hi⟩
      · refine (cAddRowNo hD (by omega) (⟨op, d, s', t, u, a, k, pl⟩, nm2, n)).mono ?_
        rintro e z ⟨rfl, hz⟩
        go_wp2
        go_ret
        unfold Added
        rw [EA.out, if_pos (by omega)]
        exact ⟨rfl, HB.out _ (bb.trans (hz.mono bb.size))⟩)
end
end Go.Proofs.YthdgehcghklflaaDoor

/- The document's run: SameSpec. -/
namespace Go.Proofs.YthdgehcghklflaaDoor
set_option maxRecDepth 100000
open Go.ChangeShapes Go.WideShapes Go.ChangeAt Go.RowKit
set_option linter.unusedVariables false

/-- A spec of the document's, to be read. -/
def SpV (w : World) (v : Value) (c : Prg) (zs init r7 : List Int) (each : Int) : Prop :=
  ∃ aL cL aS cS aI cI aR cR, v = .agg #[.slice aL c.l.length cL, .int .i64 c.lo, .int .i64 c.un, .slice aS zs.length cS, .slice aI init.length cI, .int .i64 each, .slice aR r7.length cR] ∧ Pv w (.agg #[.slice aL c.l.length cL, .int .i64 c.lo, .int .i64 c.un]) c ∧ Given .i64 w aS zs ∧ Given .u32 w aI init ∧ Given .u32 w aR r7 ∧ zs.length ≤ maxLen ∧ init.length ≤ maxLen ∧ r7.length ≤ maxLen
set_option maxHeartbeats 3000000 in
theorem rSameSpec (w : World) (v u : Value) (c d : Prg) (zs init r7 zs2 init2 r72 : List Int) (each each2 : Int) (hv : SpV w v c zs init r7 each) (hu : SpV w u d zs2 init2 r72 each2) (hc : c.l.length ≤ 100000) :
    Calls Tryd.prog 6 #[v, u] w fun e w' => e = .returned (.bool (decide (zs = zs2) && (decide (each = each2) && (sameP c d && (decide (init = init2) && decide (r7 = r72)))))) ∧ Below w.heap.size w w' := by
  obtain ⟨aL, cL, aS, cS, aI, cI, aR, cR, rfl, p1, p2, p3, p4, p5, p6, p7⟩ := hv
  obtain ⟨bL, dL, bS, dS, bI, dI, bR, dR, rfl, q1, q2, q3, q4, q5, q6, q7⟩ := hu
  have HSm : Hid (∀ W, Below w.heap.size w W → Calls Tryd.prog 9 #[.agg #[.slice aL c.l.length cL, .int .i64 c.lo, .int .i64 c.un], .agg #[.slice bL d.l.length dL, .int .i64 d.lo, .int .i64 d.un]] W fun e w' => e = .returned (.bool (sameP c d)) ∧ Below W.heap.size W w') := Lib.hid (fun W hW => rSame c d _ _ W (p1.below hW) (q1.below hW) hc)
  have HW1 : Hid (∀ W, Below w.heap.size w W → Calls Tryd.prog 10 #[.slice aI init.length cI, .slice bI init2.length dI] W fun e w' => e = .returned (.bool (decide (init = init2))) ∧ Below W.heap.size W w') := Lib.hid (fun W hW => rWords32 W aI bI cI dI init init2 (p3.below hW) (q3.below hW) p6 q6)
  have HW2 : Hid (∀ W, Below w.heap.size w W → Calls Tryd.prog 10 #[.slice aR r7.length cR, .slice bR r72.length dR] W fun e w' => e = .returned (.bool (decide (r7 = r72))) ∧ Below W.heap.size W w') := Lib.hid (fun W hW => rWords32 W aR bR cR dR r7 r72 (p4.below hW) (q4.below hW) p7 q7)
  have HA := Lib.hid p2
  have HB := Lib.hid q2
  obtain ⟨bb, k1, k2⟩ := two_boxes w 41 #[.slice aL c.l.length cL, .int .i64 c.lo, .int .i64 c.un, .slice aS zs.length cS, .slice aI init.length cI, .int .i64 each, .slice aR r7.length cR] #[.slice bL d.l.length dL, .int .i64 d.lo, .int .i64 d.un, .slice bS zs2.length dS, .slice bI init2.length dI, .int .i64 each2, .slice bR r72.length dR]
  simp only [maxLen] at p5 q5
  clear p1 p2 p3 p4 p6 p7 q1 q2 q3 q4 q6 q7 hc
  obtain ⟨res, hres⟩ : ∃ res, (decide (zs = zs2) && (decide (each = each2) && (sameP c d && (decide (init = init2) && decide (r7 = r72))))) = res := ⟨_, rfl⟩
  rw [hres]
  have HRes : Hid (res = (decide (zs = zs2) && (decide (each = each2) && (sameP c d && (decide (init = init2) && decide (r7 = r72)))))) := Lib.hid hres.symm
  clear hres
  go_enter Tryd.func6, Tryd.ntmps6
  go_upto_region 1 with fail
  generalize (w.alloc (.cells #[.slice aL c.l.length cL, .int .i64 c.lo, .int .i64 c.un, .slice aS zs.length cS, .slice aI init.length cI, .int .i64 each, .slice aR r7.length cR] 41)).alloc (.cells #[.slice bL d.l.length dL, .int .i64 d.lo, .int .i64 d.un, .slice bS zs2.length dS, .slice bI init2.length dI, .int .i64 each2, .slice bR r72.length dR] 41) = y at *
  obtain ⟨x0, x1, x2, x3, x4, x5, x6⟩ : y.cell? ⟨w.heap.size, 0, none⟩ = some (.slice aL c.l.length cL) ∧ y.cell? ⟨w.heap.size, 1, none⟩ = some (.int .i64 c.lo) ∧ y.cell? ⟨w.heap.size, 2, none⟩ = some (.int .i64 c.un) ∧ y.cell? ⟨w.heap.size, 3, none⟩ = some (.slice aS zs.length cS) ∧ y.cell? ⟨w.heap.size, 4, none⟩ = some (.slice aI init.length cI) ∧ y.cell? ⟨w.heap.size, 5, none⟩ = some (.int .i64 each) ∧ y.cell? ⟨w.heap.size, 6, none⟩ = some (.slice aR r7.length cR) := ⟨k1.cell 0, k1.cell 1, k1.cell 2, k1.cell 3, k1.cell 4, k1.cell 5, k1.cell 6⟩
  obtain ⟨z0, z1, z2, z3, z4, z5, z6⟩ : y.cell? ⟨w.heap.size + 1, 0, none⟩ = some (.slice bL d.l.length dL) ∧ y.cell? ⟨w.heap.size + 1, 1, none⟩ = some (.int .i64 d.lo) ∧ y.cell? ⟨w.heap.size + 1, 2, none⟩ = some (.int .i64 d.un) ∧ y.cell? ⟨w.heap.size + 1, 3, none⟩ = some (.slice bS zs2.length dS) ∧ y.cell? ⟨w.heap.size + 1, 4, none⟩ = some (.slice bI init2.length dI) ∧ y.cell? ⟨w.heap.size + 1, 5, none⟩ = some (.int .i64 each2) ∧ y.cell? ⟨w.heap.size + 1, 6, none⟩ = some (.slice bR r72.length dR) := ⟨k2.cell 0, k2.cell 1, k2.cell 2, k2.cell 3, k2.cell 4, k2.cell 5, k2.cell 6⟩
  have K1 := Lib.hid k1
  have K2 := Lib.hid k2
  clear k1 k2
  by_cases hl : zs.length = zs2.length
  · have dl : ((zs.length : Int) != (zs2.length : Int)) = false := by rw [hl]; simp
    have HL := Lib.hid hl
    clear hl
    cases de : (each != each2) with
    | true =>
      have HV : Hid (res = false) := Lib.hid (by rw [HRes.out, decide_eq_false (bne_iff_ne.1 de)]; simp)
      clear HSm HW1 HW2
      go_wp2
      go_ret
      exact ⟨by rw [HV.out]; rfl, bb⟩
    | false =>
      have HEq : Hid (each = each2) := Lib.hid (by simpa using de)
      go_wp2
      go_loopw [23] (fun x wr => ∃ (j : Nat), x = .int .i64 j ∧ j ≤ zs.length ∧ Hid (zs.take j = zs2.take j) ∧ Hid (Below y.heap.size y wr)) (fun x _ => zs.length - (intOf x).toNat)
      case atStart => exact ⟨0, rfl, Nat.zero_le _, Lib.hid rfl, Lib.hid (Below.refl _ _)⟩
      case round =>
        clear x0 x1 x2 x3 x4 x5 x6 z0 z1 z2 z3 z4 z5 z6
        obtain ⟨j, rfl, hj, HT, HBl⟩ := hrel
        have hbl := HBl.out
        have hbw := bb.trans (hbl.mono bb.size)
        have k1 := Bk.within K1.out (within_of_below hbl) (by simp)
        have k2 := Bk.within K2.out (within_of_below hbl) (by simp)
        obtain ⟨x0, x1, x2, x3, x4, x5, x6⟩ : wr.cell? ⟨w.heap.size, 0, none⟩ = some (.slice aL c.l.length cL) ∧ wr.cell? ⟨w.heap.size, 1, none⟩ = some (.int .i64 c.lo) ∧ wr.cell? ⟨w.heap.size, 2, none⟩ = some (.int .i64 c.un) ∧ wr.cell? ⟨w.heap.size, 3, none⟩ = some (.slice aS zs.length cS) ∧ wr.cell? ⟨w.heap.size, 4, none⟩ = some (.slice aI init.length cI) ∧ wr.cell? ⟨w.heap.size, 5, none⟩ = some (.int .i64 each) ∧ wr.cell? ⟨w.heap.size, 6, none⟩ = some (.slice aR r7.length cR) := ⟨k1.cell 0, k1.cell 1, k1.cell 2, k1.cell 3, k1.cell 4, k1.cell 5, k1.cell 6⟩
        obtain ⟨z0, z1, z2, z3, z4, z5, z6⟩ : wr.cell? ⟨w.heap.size + 1, 0, none⟩ = some (.slice bL d.l.length dL) ∧ wr.cell? ⟨w.heap.size + 1, 1, none⟩ = some (.int .i64 d.lo) ∧ wr.cell? ⟨w.heap.size + 1, 2, none⟩ = some (.int .i64 d.un) ∧ wr.cell? ⟨w.heap.size + 1, 3, none⟩ = some (.slice bS zs2.length dS) ∧ wr.cell? ⟨w.heap.size + 1, 4, none⟩ = some (.slice bI init2.length dI) ∧ wr.cell? ⟨w.heap.size + 1, 5, none⟩ = some (.int .i64 each2) ∧ wr.cell? ⟨w.heap.size + 1, 6, none⟩ = some (.slice bR r72.length dR) := ⟨k2.cell 0, k2.cell 1, k2.cell 2, k2.cell 3, k2.cell 4, k2.cell 5, k2.cell 6⟩
        by_cases hlt : j < zs.length
        · have hji : (j : Int) < zs.length := by omega
          have hjy : (j : Int) < zs2.length := by have := HL.out; omega
          obtain ⟨b1, o1, rfl, c1⟩ := HA.out.at_ hlt hbw
          obtain ⟨b2, o2, rfl, c2⟩ := HB.out.at_ (show j < zs2.length by omega) hbw
          have HE := Lib.hid (fun e => take_same hlt HL.out HT.out e)
          have HN := Lib.hid (fun e => take_other (xs := zs) (ys := zs2) (j := j) e)
          generalize nth zs j = x at *
          generalize nth zs2 j = x9 at *
          clear k1 k2 HSm HW1 HW2
          cases hq : (x != x9) with
          | true =>
            have HV : Hid (res = false) := Lib.hid (by rw [HRes.out, decide_eq_false (HN.out (bne_iff_ne.1 hq))]; simp)
            clear HE HN HT
            go_upto_region 6 with fail
            go_quiet (fail)
            have hfin := hbw.trans ((below_drawnV wr nq).mono hbw.size)
            generalize wr.drewN nq = v at *
            go_wp2
            go_ret
            exact ⟨by rw [HV.out]; rfl, hfin⟩
          | false =>
            have HE2 := Lib.hid (HE.out (by simpa using hq))
            clear HE HN HT
            go_upto_region 6 with fail
            go_quiet (fail)
            have HF := Lib.hid (hbl.trans ((below_drawnV wr nq).mono hbl.size))
            generalize wr.drewN nq = v at *
            clear c1 c2 hbl hbw
            go_wp2
            go_roundw
            case rel => exact ⟨j + 1, by go_num, by omega, HE2, HF⟩
            case measure => simp [intOf]; omega
        · obtain rfl : j = zs.length := by omega
          have HZ : Hid (res = (sameP c d && (decide (init = init2) && decide (r7 = r72)))) := Lib.hid (by
            have h := HT.out
            rw [List.take_length, HL.out, List.take_length] at h
            rw [HRes.out, decide_eq_true h, decide_eq_true HEq.out, Bool.true_and, Bool.true_and])
          clear HT
          have HC1 := Lib.hid (HSm.out wr hbw)
          have HKK : Hid (∀ W, Below wr.heap.size wr W → Below w.heap.size w W ∧ (W.cell? ⟨w.heap.size, 0, none⟩ = some (.slice aL c.l.length cL) ∧ W.cell? ⟨w.heap.size, 1, none⟩ = some (.int .i64 c.lo) ∧ W.cell? ⟨w.heap.size, 2, none⟩ = some (.int .i64 c.un) ∧ W.cell? ⟨w.heap.size, 3, none⟩ = some (.slice aS zs.length cS) ∧ W.cell? ⟨w.heap.size, 4, none⟩ = some (.slice aI init.length cI) ∧ W.cell? ⟨w.heap.size, 5, none⟩ = some (.int .i64 each) ∧ W.cell? ⟨w.heap.size, 6, none⟩ = some (.slice aR r7.length cR)) ∧ (W.cell? ⟨w.heap.size + 1, 0, none⟩ = some (.slice bL d.l.length dL) ∧ W.cell? ⟨w.heap.size + 1, 1, none⟩ = some (.int .i64 d.lo) ∧ W.cell? ⟨w.heap.size + 1, 2, none⟩ = some (.int .i64 d.un) ∧ W.cell? ⟨w.heap.size + 1, 3, none⟩ = some (.slice bS zs2.length dS) ∧ W.cell? ⟨w.heap.size + 1, 4, none⟩ = some (.slice bI init2.length dI) ∧ W.cell? ⟨w.heap.size + 1, 5, none⟩ = some (.int .i64 each2) ∧ W.cell? ⟨w.heap.size + 1, 6, none⟩ = some (.slice bR r72.length dR))) := Lib.hid (fun W hW => by
            have j1 := Bk.within k1 (within_of_below hW) (by simp)
            have j2 := Bk.within k2 (within_of_below hW) (by simp)
            exact ⟨hbw.trans (hW.mono hbw.size), ⟨j1.cell 0, j1.cell 1, j1.cell 2, j1.cell 3, j1.cell 4, j1.cell 5, j1.cell 6⟩, ⟨j2.cell 0, j2.cell 1, j2.cell 2, j2.cell 3, j2.cell 4, j2.cell 5, j2.cell 6⟩⟩)
          clear HSm k1 k2 hbl
          generalize sameP c d = o1 at *
          generalize decide (init = init2) = o2 at *
          generalize decide (r7 = r72) = o3 at *
          go_wp2_with fail
          refine HC1.out.mono ?_
          rintro e w1 ⟨rfl, hw1⟩
          obtain ⟨hbw1, ⟨x0, x1, x2, x3, x4, x5, x6⟩, ⟨z0, z1, z2, z3, z4, z5, z6⟩⟩ := HKK.out w1 hw1
          cases o1 with
          | false =>
            have HV : Hid (res = false) := Lib.hid (by rw [HZ.out]; rfl)
            clear HC1 HKK HW1 HW2
            go_wp2
            go_ret
            exact ⟨by rw [HV.out]; rfl, hbw1⟩
          | true =>
            have HC2 := Lib.hid (HW1.out w1 hbw1)
            clear HC1 HW1
            go_wp2_with fail
            refine HC2.out.mono ?_
            rintro e w2 ⟨rfl, hw2⟩
            obtain ⟨hbw2, ⟨x0, x1, x2, x3, x4, x5, x6⟩, ⟨z0, z1, z2, z3, z4, z5, z6⟩⟩ := HKK.out w2 (hw1.trans (hw2.mono hw1.size))
            cases o2 with
            | false =>
              have HV : Hid (res = false) := Lib.hid (by rw [HZ.out]; rfl)
              clear HC2 HKK HW2
              go_wp2
              go_ret
              exact ⟨by rw [HV.out]; rfl, hbw2⟩
            | true =>
              have HC3 := Lib.hid (HW2.out w2 hbw2)
              clear HC2 HW2 HKK
              go_wp2_with fail
              refine HC3.out.mono ?_
              rintro e w3 ⟨rfl, hw3⟩
              have HV : Hid (res = o3) := Lib.hid (by rw [HZ.out]; rfl)
              have hbw3 := hbw2.trans (hw3.mono hbw2.size)
              clear HC3
              go_wp2
              go_ret
              exact ⟨by rw [HV.out]; rfl, hbw3⟩
  · have dl : ((zs.length : Int) != (zs2.length : Int)) = true := bne_iff_ne.2 (by omega)
    have HV : Hid (res = false) := Lib.hid (by rw [HRes.out, decide_eq_false (fun h => hl (by rw [h]))]; simp)
    clear hl HSm HW1 HW2
    go_wp2
    go_ret
    exact ⟨by rw [HV.out]; rfl, bb⟩
end Go.Proofs.YthdgehcghklflaaDoor

/- (*draft).code: where labels are. -/
namespace Go.Proofs.YthdgehcghklflaaDoor
open Go.ChangeShapes Go.WideShapes Go.ChangeAt Go.RowKit Go.Shelf
set_option linter.unusedVariables false

theorem rowsC_at {rs : List Rw} {k : Nat} {r : Rw} (h : rs[k]? = some r) {j : Nat} (hj : j < 10) : (rowsC rs)[k * 10 + j]? = (rowC r)[j]? := flat_at rowC 10 rowC_len rs k j r h hj
/-- No label stands twice, and none is beyond n. -/
def LabOk (ls : List (List UInt8 × Int)) (n : Int) : Prop := (ls.map (·.1)).Nodup ∧ ∀ x ∈ ls, 0 ≤ x.2 ∧ x.2 ≤ n
theorem find_lab : ∀ {ls : List (List UInt8 × Int)} {n : Int}, LabOk ls n → ∀ s, findL ls s n = if labB ls s = true ∧ labAt ls s ≠ n then labAt ls s else -1
  | [], n, _, s => by simp [findL, labB]
  | (t, q) :: ls, n, ⟨h1, h2⟩, s => by
    have ih := find_lab (ls := ls) (n := n) ⟨(List.nodup_cons.1 h1).2, fun x hx => h2 x (List.mem_cons_of_mem _ hx)⟩ s
    have hq := h2 (t, q) List.mem_cons_self
    by_cases e : t = s
    · subst e
      have hno : labB ls t = false := by
        unfold labB
        rw [List.any_eq_false]
        intro x hx
        have := (List.nodup_cons.1 h1).1
        simp only [List.mem_map, not_exists, not_and] at this
        simpa using this x hx
      have hf : ls.find? (fun x => x.1 == t && decide (x.2 < n)) = none := by
        rw [List.find?_eq_none]
        intro x hx
        unfold labB at hno
        rw [List.any_eq_false] at hno
        have := hno x hx
        simp at this ⊢
        intro e
        exact absurd e this
      simp only at hq
      by_cases hn : q < n
      · have : q ≠ n := by omega
        simp [findL, labB, labAt, hn, this]
      · have : q = n := by omega
        simp [findL, labB, labAt, this, hf]
    · have e1 : (t == s) = false := by simpa using e
      have e2 : findL ((t, q) :: ls) s n = findL ls s n := by simp [findL, e1]
      have e3 : labB ((t, q) :: ls) s = labB ls s := by simp [labB, e1]
      have e4 : labAt ((t, q) :: ls) s = labAt ls s := by simp [labAt, e1]
      rw [e2, e3, e4, ih]
theorem placeV_find {ls : List (List UInt8 × Int)} {n : Int} (h : LabOk ls n) (s : List UInt8) : (findL ls s n < 0 ∧ placeV ls s n = .tuple #[.int .i64 0, .bool false]) ∨ (0 ≤ findL ls s n ∧ findL ls s n < n ∧ placeV ls s n = .tuple #[.int .i64 (findL ls s n), .bool true]) := by
  rw [find_lab h s]
  unfold placeV
  by_cases hc : labB ls s = true ∧ labAt ls s ≠ n
  · rw [if_pos hc, if_pos hc]
    have : 0 ≤ labAt ls s ∧ labAt ls s ≤ n := by
      unfold labAt
      split
      · rename_i x hx
        exact h.2 x (List.mem_of_find?_eq_some hx)
      · rename_i hx
        exfalso
        have := hc.1
        unfold labB at this
        rw [List.any_eq_true] at this
        obtain ⟨x, hx1, hx2⟩ := this
        rw [List.find?_eq_none] at hx
        exact hx x hx1 hx2
    exact .inr ⟨this.1, by have := hc.2; omega, rfl⟩
  · rw [if_neg hc, if_neg hc]
    exact .inl ⟨by omega, rfl⟩

/-- Done so far, and what the rest comes to. -/
def joinR (done : List Ins) : (Int × Int) ⊕ List Ins → (Int × Int) ⊕ List Ins
  | .inl e => .inl e
  | .inr l => .inr (done ++ l)
theorem joinR_nil (x : (Int × Int) ⊕ List Ins) : joinR [] x = x := by cases x <;> rfl
theorem join_skip (ls : List (List UInt8 × Int)) (n : Int) (done : List Ins) (i : Ins) (row : Int) (more : List Rw) : joinR done (asm2 ls n ((i, [], row) :: more)) = joinR (done ++ [i]) (asm2 ls n more) := by
  rw [asm2_skip]
  cases asm2 ls n more <;> simp [joinR]
theorem join_name (ls : List (List UInt8 × Int)) (n : Int) (done : List Ins) (i : Ins) (nm : List UInt8) (hn : nm ≠ []) (row : Int) (more : List Rw) (h : 0 ≤ findL ls nm n) : joinR done (asm2 ls n ((i, nm, row) :: more)) = joinR (done ++ [{ i with pl := findL ls nm n }]) (asm2 ls n more) := by
  rw [asm2_name ls n i nm hn, if_neg (by omega)]
  cases asm2 ls n more <;> simp [joinR]
theorem join_bad (ls : List (List UInt8 × Int)) (n : Int) (done : List Ins) (i : Ins) (nm : List UInt8) (hn : nm ≠ []) (row : Int) (more : List Rw) (h : findL ls nm n < 0) : joinR done (asm2 ls n ((i, nm, row) :: more)) = .inl (row, 10) := by
  rw [asm2_name ls n i nm hn, if_pos h]
  rfl

/-- Behind one more instruction (its append is done, its store isn't). -/
def CodeStep (w w' : World) (k : Nat) (done : List Ins) (v : Value) : Prop :=
  done.length = k + 1 ∧ Below w.heap.size w (w'.setCell ⟨w.heap.size + 1, 0, none⟩ v) ∧ Bk (w'.setCell ⟨w.heap.size + 1, 0, none⟩ v) w.heap.size 27 #[.slice none 0 0, .int .i64 0, .int .i64 0] ∧ Bk (w'.setCell ⟨w.heap.size + 1, 0, none⟩ v) (w.heap.size + 1) 27 #[v, .int .i64 0, .int .i64 0] ∧
    (w'.setCell ⟨w.heap.size + 1, 0, none⟩ v).ownsRow w.heap.size 60 8 v (k + 1) (progC done)
section
variable {w x w' : World} {k : Nat} {done : List Ins} {v v' : Value} {i : Ins} {o : Obj}
theorem code_kept {g : Nat} {cs : Array Value} (hC : Bk x g 27 cs) (hO : x.ownsRow w.heap.size 60 8 v k (progC done)) (hg : (x.alloc o).grownBy w' v.ownBlock) : Bk w' g 27 cs :=
  Bk.grown (hC.alloc o) hg fun e => by
    obtain ⟨cs, hcs⟩ := own_bk hO e.symm
    exact Bk.unlike hcs hC (by decide) rfl
theorem code_step (hb : Below w.heap.size w x) (hR : Bk x w.heap.size 27 #[.slice none 0 0, .int .i64 0, .int .i64 0]) (hC : Bk x (w.heap.size + 1) 27 #[v, .int .i64 0, .int .i64 0]) (hO : x.ownsRow w.heap.size 60 8 v k (progC done)) (hd : done.length = k)
    (hw : w'.ownsRow w.heap.size 60 8 v' (k + 1) (progC done ++ insC i)) (hg : (x.alloc o).grownBy w' v.ownBlock) : CodeStep w w' k (done ++ [i]) v' := by
  have hR2 := code_kept hR hO hg
  have hC2 := code_kept hC hO hg
  have hb2 : Below w.heap.size w w' := Below.grown (hb.alloc (o := o) hb.size) hg (by rw [World.size_alloc]; have := hb.size; omega) (fun j hj => (World.ownsRow.lt hO j hj).1)
  refine ⟨by simp [hd], hb2.setCell (by show w.heap.size ≤ w.heap.size + 1; omega) _, hR2.off (by show w.heap.size ≠ w.heap.size + 1; omega) _, hC2.put 0 v', ?_⟩
  rw [progC_snoc]
  refine own_within hw ((Within.refl w' (fun b => b = w.heap.size + 1)).put (w.heap.size + 1) 0 v' (.inl rfl)) fun b e e2 => ?_
  obtain ⟨cs, hcs⟩ := own_bk hw e
  exact Bk.unlike hcs hC2 (by decide) e2
end

set_option maxHeartbeats 1000000 in
theorem cCode {w : World} {p m lo : Nat} {ls : List (List UInt8 × Int)} {rs : List Rw} (h : Dr w p m lo ls rs) (hr : rs.length ≤ 64) (hL : LabOk ls rs.length) (hN : ∀ r ∈ rs, r.2.1.length ≤ 16) :
    Calls Tryd.prog 14 #[.pointer (some ⟨p, 0, none⟩)] w fun e w' => ∃ v, e = .returned (.tuple #[v, .int .i64 (finishL ls rs).2.1, .int .i64 (finishL ls rs).2.2]) ∧ Pg w' w.heap.size v (finishL ls rs).1 ∧ Below w.heap.size w w' := by
  have hpl := h.lts.1
  have HP : Hid (∀ (W : World) (s : List UInt8), Below w.heap.size w W → s.length ≤ 16 → Calls Tryd.prog 23 #[.pointer (some ⟨p, 0, none⟩), bs s] W fun e w' => e = .returned (placeV ls s rs.length) ∧ W = w') :=
    Lib.hid fun W s hW hs => cPlace (h.within (within_of_below hW) (by simp) (by simp) (by simp)) s (by omega)
  obtain ⟨sl, h1, -, h3⟩ := h
  obtain ⟨a, cap, rfl, hcap, hmax, hg⟩ := own_is h3
  have HE : Hid (∀ x, asm2 ls rs.length rs = .inl x → finishL ls rs = (Prg.zero, x.1, x.2)) := Lib.hid fun x hx => by unfold finishL; rw [hx]
  have HF : Hid (∀ l, asm2 ls rs.length rs = .inr l → finishL ls rs = if findL ls lockW rs.length < 0 ∨ findL ls unlockW rs.length < 0 then (Prg.zero, 0, 10) else (⟨l, findL ls lockW rs.length, findL ls unlockW rs.length⟩, 0, 0)) := Lib.hid fun l hl => by unfold finishL; rw [hl]
  have HL : Hid (∀ s : List UInt8, (findL ls s rs.length < 0 ∧ placeV ls s rs.length = .tuple #[.int .i64 0, .bool false]) ∨ (0 ≤ findL ls s rs.length ∧ findL ls s rs.length < rs.length ∧ placeV ls s rs.length = .tuple #[.int .i64 (findL ls s rs.length), .bool true])) := Lib.hid fun s => placeV_find hL s
  generalize finishL ls rs = fin at *
  have HR : Hid (∀ k r, rs[k]? = some r → ∃ g, a = some ⟨g, 0, none⟩ ∧ g < w.heap.size ∧ r.2.1.length ≤ 16 ∧ ∀ j, j < 10 → w.cell? ⟨g, k * 10 + j, none⟩ = (rowC r)[j]?) := Lib.hid fun k r hk => by
    have hkl := (List.getElem?_eq_some_iff.1 hk).1
    obtain ⟨g, e1, e2, e3, e4, e5, e6⟩ := hg (by omega)
    refine ⟨g, e1, e4, hN r (List.mem_of_getElem? hk), fun j hj => ?_⟩
    rw [e6 _ (by omega), rowsC_at hk hj]
  have c0 : ((w.alloc (.cells #[.slice none 0 0, .int .i64 0, .int .i64 0] 27)).alloc (.cells #[.slice none 0 0, .int .i64 0, .int .i64 0] 27)).cell? ⟨p, 0, none⟩ = some (.slice a rs.length cap) := ((h1.alloc _).alloc _).cell 0
  clear hg hN
  go_enter Tryd.func14, Tryd.ntmps14
  go_wp2
  have b0 : Below w.heap.size w ((w.alloc (.cells #[.slice none 0 0, .int .i64 0, .int .i64 0] 27)).alloc (.cells #[.slice none 0 0, .int .i64 0, .int .i64 0] 27)) := ((Below.refl _ _).alloc (Nat.le_refl _) _).alloc (by simp) _
  have r0 := (Bk.made w 27 #[.slice none 0 0, .int .i64 0, .int .i64 0]).alloc (.cells #[.slice none 0 0, .int .i64 0, .int .i64 0] 27)
  have d0 := Bk.made (w.alloc (.cells #[.slice none 0 0, .int .i64 0, .int .i64 0] 27)) 27 #[.slice none 0 0, .int .i64 0, .int .i64 0]
  rw [World.size_alloc] at d0
  generalize (w.alloc (.cells #[.slice none 0 0, .int .i64 0, .int .i64 0] 27)).alloc (.cells #[.slice none 0 0, .int .i64 0, .int .i64 0] 27) = w0 at *
  go_loopw [3, 4, 19] (fun l e i wr => ∃ (k : Nat) (done : List Ins) (v : Value), l = .int .i64 0 ∧ e = .int .i64 0 ∧ i = .int .i64 k ∧ k ≤ rs.length ∧ done.length = k ∧ Below w.heap.size w wr ∧ Bk wr w.heap.size 27 #[.slice none 0 0, .int .i64 0, .int .i64 0] ∧ Bk wr (w.heap.size + 1) 27 #[v, .int .i64 0, .int .i64 0] ∧
      wr.ownsRow w.heap.size 60 8 v k (progC done) ∧ Hid (asm2 ls rs.length rs = joinR done (asm2 ls rs.length (rs.drop k)))) (fun _ _ i _ => rs.length - (intOf i).toNat)
  case atStart => exact ⟨0, [], .slice none 0 0, rfl, rfl, rfl, Nat.zero_le _, rfl, b0, r0, d0, World.ownsRow_nil _ _ _ _, Lib.hid (by rw [joinR_nil, List.drop_zero])⟩
  case round =>
    obtain ⟨k, done, v, rfl, rfl, rfl, hk, hdl, hb, hR, hC, hO, HJ⟩ := hrel
    clear c0 b0 r0 d0 w0
    by_cases hlt : k < rs.length
    · have hki : (k : Int) < rs.length := by omega
      obtain ⟨g, rfl, hgl, hnl, hcs⟩ := HR.out k _ (List.getElem?_eq_getElem hlt)
      have hdr : rs.drop k = rs[k] :: rs.drop (k + 1) := List.drop_eq_getElem_cons hlt
      rw [hdr] at HJ
      clear hdr
      generalize rs[k] = r at *
      obtain ⟨⟨op, d, s', t, u, a', k', pl⟩, nm, ln⟩ := r
      have hcw : ∀ j, j < 10 → wr.cell? ⟨g, k * 10 + j, none⟩ = _ := fun j hj => (hb.cell (p := ⟨g, k * 10 + j, none⟩) hgl).trans (hcs j hj)
      have e0 : wr.cell? ⟨g, k * 10, none⟩ = some (.int .i64 op) := hcw 0 (by omega)
      have e1 : wr.cell? ⟨g, k * 10 + 1, none⟩ = some (.int .i64 d) := hcw 1 (by omega)
      have e2 : wr.cell? ⟨g, k * 10 + 2, none⟩ = some (.int .i64 s') := hcw 2 (by omega)
      have e3 : wr.cell? ⟨g, k * 10 + 3, none⟩ = some (.int .i64 t) := hcw 3 (by omega)
      have e4 : wr.cell? ⟨g, k * 10 + 4, none⟩ = some (.int .i64 u) := hcw 4 (by omega)
      have e5 : wr.cell? ⟨g, k * 10 + 5, none⟩ = some (.int .i64 a') := hcw 5 (by omega)
      have e6 : wr.cell? ⟨g, k * 10 + 6, none⟩ = some (.int .u32 k') := hcw 6 (by omega)
      have e7 : wr.cell? ⟨g, k * 10 + 7, none⟩ = some (.int .i64 pl) := hcw 7 (by omega)
      have e8 : wr.cell? ⟨g, k * 10 + 8, none⟩ = some (.string ⟨nm.toArray⟩) := hcw 8 (by omega)
      have e9 : wr.cell? ⟨g, k * 10 + 9, none⟩ = some (.int .i64 ln) := hcw 9 (by omega)
      clear hcw hcs
      go_upto_region 5 with fail
      clear e0 e1 e2 e3 e4 e5 e6 e7 e8 e9
      have xq := Bk.made wr 75 #[.int .i64 op, .int .i64 d, .int .i64 s', .int .i64 t, .int .i64 u, .int .i64 a', .int .u32 k', .int .i64 pl, .string ⟨nm.toArray⟩, .int .i64 ln]
      have hne1 : wr.heap.size ≠ w.heap.size := Nat.ne_of_gt hR.lt
      have hne2 : wr.heap.size ≠ w.heap.size + 1 := Nat.ne_of_gt hC.lt
      have hge : w.heap.size ≤ wr.heap.size := hb.size
      replace hR := hR.alloc (.cells #[.int .i64 op, .int .i64 d, .int .i64 s', .int .i64 t, .int .i64 u, .int .i64 a', .int .u32 k', .int .i64 pl, .string ⟨nm.toArray⟩, .int .i64 ln] 75)
      replace hC := hC.alloc (.cells #[.int .i64 op, .int .i64 d, .int .i64 s', .int .i64 t, .int .i64 u, .int .i64 a', .int .u32 k', .int .i64 pl, .string ⟨nm.toArray⟩, .int .i64 ln] 75)
      replace hO := World.ownsRow.alloc hO (.cells #[.int .i64 op, .int .i64 d, .int .i64 s', .int .i64 t, .int .i64 u, .int .i64 a', .int .u32 k', .int .i64 pl, .string ⟨nm.toArray⟩, .int .i64 ln] 75)
      replace hb := hb.alloc (o := .cells #[.int .i64 op, .int .i64 d, .int .i64 s', .int .i64 t, .int .i64 u, .int .i64 a', .int .u32 k', .int .i64 pl, .string ⟨nm.toArray⟩, .int .i64 ln] 75) hb.size
      generalize hq : wr.heap.size = q at *
      generalize wr.alloc (.cells #[.int .i64 op, .int .i64 d, .int .i64 s', .int .i64 t, .int .i64 u, .int .i64 a', .int .u32 k', .int .i64 pl, .string ⟨nm.toArray⟩, .int .i64 ln] 75) = x at *
      have c8 : x.cell? ⟨q, 8, none⟩ = some (.string ⟨nm.toArray⟩) := xq.cell 8
      by_cases hnm : nm = []
      case' pos =>
        subst hnm
        rw [join_skip] at HJ
        go_upto_region 10 with fail
        generalize pl = plx at *
      case' neg =>
        have hn0 : (nm == []) = false := by simpa using hnm
        rcases HL.out nm with ⟨hf, hv⟩ | ⟨hf0, hf1, hv⟩
        case' inl =>
          rw [join_bad _ _ _ _ _ hnm _ _ hf] at HJ
          have HQ := Lib.hid (HE.out _ HJ.out)
          have HP2 := Lib.hid (HP.out x nm hb hnl)
          rw [hv] at HP2
          have c9 : x.cell? ⟨q, 9, none⟩ = some (.int .i64 ln) := xq.cell 9
          obtain ⟨z0, z1, z2⟩ : x.cell? ⟨w.heap.size, 0, none⟩ = some (.slice none 0 0) ∧ x.cell? ⟨w.heap.size, 1, none⟩ = some (.int .i64 0) ∧ x.cell? ⟨w.heap.size, 2, none⟩ = some (.int .i64 0) := ⟨hR.cell 0, hR.cell 1, hR.cell 2⟩
          have zf := hR.free
          clear HJ HE HF HL HP HR hL hnm
          go_wp2_with fail
          refine HP2.out.mono ?_
          rintro e x2 ⟨rfl, rfl⟩
          go_wp2
          go_region
          go_wp2
          have h9 := put3_bk hR (.slice none 0 0) (.int .i64 0) (.int .i64 0)
          have b9 := put3_below hb (Nat.le_refl _) (.slice none 0 0) (.int .i64 0) (.int .i64 0)
          replace b9 : Below w.heap.size w (put3 x w.heap.size (.slice none 0 0) (.int .i64 0) (.int .i64 0)).drew := b9.drew
          replace h9 : Bk (put3 x w.heap.size (.slice none 0 0) (.int .i64 0) (.int .i64 0)).drew w.heap.size 27 #[.slice none 0 0, .int .i64 0, .int .i64 0] := h9
          generalize hv : (((x.setCell ⟨w.heap.size, 0, none⟩ (.slice none 0 0)).setCell ⟨w.heap.size, 1, none⟩ (.int .i64 0)).setCell ⟨w.heap.size, 2, none⟩ (.int .i64 0)).drew = v9
          replace hv : (put3 x w.heap.size (.slice none 0 0) (.int .i64 0) (.int .i64 0)).drew = v9 := hv
          rw [hv] at h9 b9
          obtain ⟨y0, y1, y2⟩ : v9.cell? ⟨w.heap.size, 0, none⟩ = some (.slice none 0 0) ∧ v9.cell? ⟨w.heap.size, 1, none⟩ = some (.int .i64 0) ∧ v9.cell? ⟨w.heap.size, 2, none⟩ = some (.int .i64 0) := ⟨h9.cell 0, h9.cell 1, h9.cell 2⟩
          refine bodyPost_ret (v := .tuple #[.agg #[.slice none 0 0, .int .i64 0, .int .i64 0], .int .i64 ln, .int .i64 10]) (by simp [results, Tryd.results14, go_sem, y0, y1, y2]) rfl ⟨.agg #[.slice none 0 0, .int .i64 0, .int .i64 0], ?_, ?_, b9⟩
          · rw [HQ.out]
          · rw [HQ.out]; exact ⟨_, rfl, World.ownsRow_nil _ _ _ _⟩
        case' inr =>
          rw [join_name _ _ _ _ _ hnm _ _ hf0] at HJ
          have HP2 := Lib.hid (HP.out x nm hb hnl)
          rw [hv] at HP2
          generalize findL ls nm rs.length = plx at *
          have c7 : x.cell? ⟨q, 7, none⟩ = some (.int .i64 pl) := xq.cell 7
          have f7 := xq.free 7
          go_wp2_with fail
          refine HP2.out.mono ?_
          rintro e x2 ⟨rfl, rfl⟩
          go_upto_region 10 with fail
          replace hb := hb.setCell (p := ⟨q, 7, none⟩) hge (.int .i64 plx)
          replace hR := hR.off (p := ⟨q, 7, none⟩) (fun e => hne1 e.symm) (.int .i64 plx)
          replace hC := hC.off (p := ⟨q, 7, none⟩) (fun e => hne2 e.symm) (.int .i64 plx)
          replace hO := own_within hO ((Within.refl x (fun b => b = q)).put q 7 (.int .i64 plx) (.inl rfl)) (fun b e e2 => by
            obtain ⟨cs, hcs⟩ := own_bk hO e
            exact Bk.unlike hcs xq (by decide) e2)
          replace xq := xq.put 7 (.int .i64 plx)
          simp only [List.setIfInBounds_toArray, List.set_cons_zero, List.set_cons_succ] at xq
          generalize x.setCell ⟨q, 7, none⟩ (.int .i64 plx) = x at *
      all_goals (
        obtain ⟨e0, e1, e2, e3, e4, e5, e6, e7⟩ : x.cell? ⟨q, 0, none⟩ = some (.int .i64 op) ∧ x.cell? ⟨q, 1, none⟩ = some (.int .i64 d) ∧ x.cell? ⟨q, 2, none⟩ = some (.int .i64 s') ∧ x.cell? ⟨q, 3, none⟩ = some (.int .i64 t) ∧ x.cell? ⟨q, 4, none⟩ = some (.int .i64 u) ∧ x.cell? ⟨q, 5, none⟩ = some (.int .i64 a') ∧ x.cell? ⟨q, 6, none⟩ = some (.int .u32 k') ∧ x.cell? ⟨q, 7, none⟩ = some (.int .i64 plx) :=
          ⟨xq.cell 0, xq.cell 1, xq.cell 2, xq.cell 3, xq.cell 4, xq.cell 5, xq.cell 6, xq.cell 7⟩
        obtain ⟨a2, cap2, rfl, hcap2, hmax2, _⟩ := own_is hO
        have v0 : x.cell? ⟨w.heap.size + 1, 0, none⟩ = some (.slice a2 k cap2) := hC.cell 0
        have HO := Lib.hid (World.ownsRow.alloc hO (.cells #[.int .i64 op, .int .i64 d, .int .i64 s', .int .i64 t, .int .i64 u, .int .i64 a', .int .u32 k', .int .i64 plx] 60))
        have HN2 := Lib.hid (news_bk (Bk.made x 60 #[.int .i64 op, .int .i64 d, .int .i64 s', .int .i64 t, .int .i64 u, .int .i64 a', .int .u32 k', .int .i64 plx]))
        have HBS : Hid (w.heap.size ≤ (x.alloc (.cells #[.int .i64 op, .int .i64 d, .int .i64 s', .int .i64 t, .int .i64 u, .int .i64 a', .int .u32 k', .int .i64 plx] 60)).heap.size) := Lib.hid (by rw [World.size_alloc]; have := hb.size; omega)
        have HEND : Hid (∀ (w' : World) (v' : Value), w'.ownsRow w.heap.size 60 8 v' (k + 1) (progC done ++ insC ⟨op, d, s', t, u, a', k', plx⟩) → (x.alloc (.cells #[.int .i64 op, .int .i64 d, .int .i64 s', .int .i64 t, .int .i64 u, .int .i64 a', .int .u32 k', .int .i64 plx] 60)).grownBy w' (Value.slice a2 k cap2).ownBlock → CodeStep w w' k (done ++ [⟨op, d, s', t, u, a', k', plx⟩]) v') := Lib.hid fun w' v' hw hg => code_step hb hR hC hO hdl hw hg
        have HCC : Hid (∀ (w' : World), (x.alloc (.cells #[.int .i64 op, .int .i64 d, .int .i64 s', .int .i64 t, .int .i64 u, .int .i64 a', .int .u32 k', .int .i64 plx] 60)).grownBy w' (Value.slice a2 k cap2).ownBlock → Bk w' (w.heap.size + 1) 27 #[.slice a2 k cap2, .int .i64 0, .int .i64 0]) := Lib.hid fun w' hg => code_kept hC hO hg
        clear HR HP HL HE HF hL hcap hmax c8 hR hC hO xq hb
        go_wp2_with (at_builtin; refine wpOwn rfl _ _ 25 rfl _ 64 Tryd.underlying25 insInfo rfl (by omega) (by omega) HO.out rfl (insC ⟨op, d, s', t, u, a', k', plx⟩) rfl (insC_one _) x.heap.size rfl HN2.out (by omega) HBS.out ?_; intro v' w' hown hgr hloc; have hcc := HCC.out w' hgr; have cc0 : w'.cell? ⟨w.heap.size + 1, 0, none⟩ = some (.slice a2 k cap2) := hcc.cell 0; have cf0 := hcc.free 0; have HS := Lib.hid (HEND.out w' v' hown hgr); obtain ⟨a3, cap3, rfl, _, _, _⟩ := own_is hown)
        obtain ⟨s1, s2, s3, s4, s5⟩ := HS.out
        go_roundw
        case rel => exact ⟨k + 1, done ++ [⟨op, d, s', t, u, a', k', plx⟩], .slice a3 (k + 1) cap3, rfl, rfl, by go_num, by omega, s1, s2, s3, s4, s5, HJ⟩
        case measure =>
          show rs.length - ((k : Int) + 1).toNat < rs.length - (k : Int).toNat
          omega)
    · obtain rfl : k = rs.length := by omega
      have hki : ¬ (rs.length : Int) < rs.length := by omega
      have HF2 := Lib.hid (HF.out done (by rw [HJ.out, List.drop_of_length_le (by omega)]; simp [asm2, joinR]))
      have PL : Hid (∀ W : World, Below w.heap.size w W → Calls Tryd.prog 23 #[.pointer (some ⟨p, 0, none⟩), .string ⟨#[108, 111, 99, 107]⟩] W fun e w' => e = .returned (placeV ls lockW rs.length) ∧ W = w') := Lib.hid fun W hW => HP.out W lockW hW (by decide)
      have PU : Hid (∀ W : World, Below w.heap.size w W → Calls Tryd.prog 23 #[.pointer (some ⟨p, 0, none⟩), .string ⟨#[117, 110, 108, 111, 99, 107]⟩] W fun e w' => e = .returned (placeV ls unlockW rs.length) ∧ W = w') := Lib.hid fun W hW => HP.out W unlockW hW (by decide)
      have FL := Lib.hid (HL.out lockW)
      have FU := Lib.hid (HL.out unlockW)
      generalize findL ls lockW rs.length = fl at *
      generalize findL ls unlockW rs.length = fu at *
      generalize placeV ls lockW rs.length = pvl at *
      generalize placeV ls unlockW rs.length = pvu at *
      obtain ⟨z0, z1, z2⟩ : wr.cell? ⟨w.heap.size, 0, none⟩ = some (.slice none 0 0) ∧ wr.cell? ⟨w.heap.size, 1, none⟩ = some (.int .i64 0) ∧ wr.cell? ⟨w.heap.size, 2, none⟩ = some (.int .i64 0) := ⟨hR.cell 0, hR.cell 1, hR.cell 2⟩
      have zf := hR.free
      clear HJ HE HF HL HP HR hL
      go_wp2_with fail
      refine (PL.out _ hb).mono ?_
      rintro e x ⟨rfl, rfl⟩
      by_cases hfl : fl < 0
      case' pos =>
        obtain rfl : pvl = .tuple #[.int .i64 0, .bool false] := by
          rcases FL.out with ⟨_, e⟩ | ⟨h, _⟩
          · exact e
          · omega
        go_wp2_with fail
        refine (PU.out _ hb).mono ?_
        rintro e x ⟨rfl, rfl⟩
        have HQ : Hid (fin = (Prg.zero, 0, 10)) := Lib.hid (by rw [HF2.out, if_pos (.inl hfl)])
        rcases FU.out with ⟨hfu, rfl⟩ | ⟨hfu, hfu2, rfl⟩
        case' inl => go_wp2
        case' inr => go_wp2
      case' neg =>
        obtain rfl : pvl = .tuple #[.int .i64 fl, .bool true] := by
          rcases FL.out with ⟨h, _⟩ | ⟨_, _, e⟩
          · omega
          · exact e
        go_wp2_with fail
        refine (PU.out _ hb).mono ?_
        rintro e x ⟨rfl, rfl⟩
        rcases hfuu : decide (fu < 0)
        case' true =>
          have hfu : fu < 0 := by simpa using hfuu
          obtain rfl : pvu = .tuple #[.int .i64 0, .bool false] := by
            rcases FU.out with ⟨_, e⟩ | ⟨h, _⟩
            · exact e
            · omega
          have HQ : Hid (fin = (Prg.zero, 0, 10)) := Lib.hid (by rw [HF2.out, if_pos (.inr hfu)])
          go_wp2
        case' false =>
          have hfu : ¬ fu < 0 := by simpa using hfuu
          obtain rfl : pvu = .tuple #[.int .i64 fu, .bool true] := by
            rcases FU.out with ⟨h, _⟩ | ⟨_, _, e⟩
            · omega
            · exact e
          have HQ : Hid (fin = (⟨done, fl, fu⟩, 0, 0)) := Lib.hid (by rw [HF2.out, if_neg (by omega)])
          obtain ⟨a2, cap2, rfl, _, _, _⟩ := own_is hO
          obtain ⟨y0, y1, y2⟩ : wr.cell? ⟨w.heap.size + 1, 0, none⟩ = some (.slice a2 rs.length cap2) ∧ wr.cell? ⟨w.heap.size + 1, 1, none⟩ = some (.int .i64 0) ∧ wr.cell? ⟨w.heap.size + 1, 2, none⟩ = some (.int .i64 0) := ⟨hC.cell 0, hC.cell 1, hC.cell 2⟩
          have yf := hC.free
          have hC9 : Bk ((wr.setCell ⟨w.heap.size + 1, 1, none⟩ (.int .i64 fl)).setCell ⟨w.heap.size + 1, 2, none⟩ (.int .i64 fu)) (w.heap.size + 1) 27 #[.slice a2 rs.length cap2, .int .i64 fl, .int .i64 fu] := (hC.put 1 _).put 2 _
          have hR9 := (hR.off (p := ⟨w.heap.size + 1, 1, none⟩) (by show w.heap.size ≠ w.heap.size + 1; omega) (.int .i64 fl)).off (p := ⟨w.heap.size + 1, 2, none⟩) (by show w.heap.size ≠ w.heap.size + 1; omega) (.int .i64 fu)
          have hb9 := (hb.setCell (p := ⟨w.heap.size + 1, 1, none⟩) (by show w.heap.size ≤ w.heap.size + 1; omega) (.int .i64 fl)).setCell (p := ⟨w.heap.size + 1, 2, none⟩) (by show w.heap.size ≤ w.heap.size + 1; omega) (.int .i64 fu)
          have hO9 := own_within hO (((Within.refl wr (fun b => b = w.heap.size + 1)).put (w.heap.size + 1) 1 (.int .i64 fl) (.inl rfl)).put (w.heap.size + 1) 2 (.int .i64 fu) (.inl rfl)) (fun b e e2 => by
            obtain ⟨cs, hcs⟩ := own_bk hO e
            exact Bk.unlike hcs hC (by decide) e2)
          clear HF2 PL PU FL FU hR hC hb hO
          go_upto_region 17 with fail
          clear y0 y1 y2 yf z0 z1 z2 zf
          generalize (wr.setCell ⟨w.heap.size + 1, 1, none⟩ (.int .i64 fl)).setCell ⟨w.heap.size + 1, 2, none⟩ (.int .i64 fu) = y at *
          obtain ⟨y0, y1, y2⟩ : y.cell? ⟨w.heap.size + 1, 0, none⟩ = some (.slice a2 rs.length cap2) ∧ y.cell? ⟨w.heap.size + 1, 1, none⟩ = some (.int .i64 fl) ∧ y.cell? ⟨w.heap.size + 1, 2, none⟩ = some (.int .i64 fu) := ⟨hC9.cell 0, hC9.cell 1, hC9.cell 2⟩
          obtain ⟨z0, z1, z2⟩ : y.cell? ⟨w.heap.size, 0, none⟩ = some (.slice none 0 0) ∧ y.cell? ⟨w.heap.size, 1, none⟩ = some (.int .i64 0) ∧ y.cell? ⟨w.heap.size, 2, none⟩ = some (.int .i64 0) := ⟨hR9.cell 0, hR9.cell 1, hR9.cell 2⟩
          have zf := hR9.free
          go_wp2
          have h9 := put3_bk hR9 (.slice a2 rs.length cap2) (.int .i64 fl) (.int .i64 fu)
          have b9 := put3_below hb9 (Nat.le_refl _) (.slice a2 rs.length cap2) (.int .i64 fl) (.int .i64 fu)
          have o9 : (put3 y w.heap.size (.slice a2 rs.length cap2) (.int .i64 fl) (.int .i64 fu)).ownsRow w.heap.size 60 8 (.slice a2 rs.length cap2) rs.length (progC done) := own_within hO9 ((((Within.refl y (fun b => b = w.heap.size)).put w.heap.size 0 (.slice a2 rs.length cap2) (.inl rfl)).put w.heap.size 1 (.int .i64 fl) (.inl rfl)).put w.heap.size 2 (.int .i64 fu) (.inl rfl)) (fun b e e2 => by
            obtain ⟨cs, hcs⟩ := own_bk hO9 e
            exact Bk.unlike hcs hR9 (by decide) e2)
          generalize hv : (((y.setCell ⟨w.heap.size, 0, none⟩ (.slice a2 rs.length cap2)).setCell ⟨w.heap.size, 1, none⟩ (.int .i64 fl)).setCell ⟨w.heap.size, 2, none⟩ (.int .i64 fu)) = v9
          replace hv : put3 y w.heap.size (.slice a2 rs.length cap2) (.int .i64 fl) (.int .i64 fu) = v9 := hv
          rw [hv] at h9 b9 o9
          obtain ⟨q0, q1, q2⟩ : v9.cell? ⟨w.heap.size, 0, none⟩ = some (.slice a2 rs.length cap2) ∧ v9.cell? ⟨w.heap.size, 1, none⟩ = some (.int .i64 fl) ∧ v9.cell? ⟨w.heap.size, 2, none⟩ = some (.int .i64 fu) := ⟨h9.cell 0, h9.cell 1, h9.cell 2⟩
          refine bodyPost_ret (v := .tuple #[.agg #[.slice a2 rs.length cap2, .int .i64 fl, .int .i64 fu], .int .i64 0, .int .i64 0]) (by simp [results, Tryd.results14, go_sem, q0, q1, q2]) rfl ⟨.agg #[.slice a2 rs.length cap2, .int .i64 fl, .int .i64 fu], ?_, ?_, b9⟩
          · rw [HQ.out]
          · rw [HQ.out]; exact ⟨_, rfl, by simp only [hdl]; exact o9⟩
      all_goals (
        have h9 := put3_bk hR (.slice none 0 0) (.int .i64 0) (.int .i64 0)
        have b9 := put3_below hb (Nat.le_refl _) (.slice none 0 0) (.int .i64 0) (.int .i64 0)
        generalize hv : (((wr.setCell ⟨w.heap.size, 0, none⟩ (.slice none 0 0)).setCell ⟨w.heap.size, 1, none⟩ (.int .i64 0)).setCell ⟨w.heap.size, 2, none⟩ (.int .i64 0)) = v9
        replace hv : put3 wr w.heap.size (.slice none 0 0) (.int .i64 0) (.int .i64 0) = v9 := hv
        rw [hv] at h9 b9
        obtain ⟨y0, y1, y2⟩ : v9.cell? ⟨w.heap.size, 0, none⟩ = some (.slice none 0 0) ∧ v9.cell? ⟨w.heap.size, 1, none⟩ = some (.int .i64 0) ∧ v9.cell? ⟨w.heap.size, 2, none⟩ = some (.int .i64 0) := ⟨h9.cell 0, h9.cell 1, h9.cell 2⟩
        refine bodyPost_ret (v := .tuple #[.agg #[.slice none 0 0, .int .i64 0, .int .i64 0], .int .i64 0, .int .i64 10]) (by simp [results, Tryd.results14, go_sem, y0, y1, y2]) rfl ⟨.agg #[.slice none 0 0, .int .i64 0, .int .i64 0], ?_, ?_, b9⟩
        · rw [HQ.out]
        · rw [HQ.out]; exact ⟨_, rfl, World.ownsRow_nil _ _ _ _⟩)
end Go.Proofs.YthdgehcghklflaaDoor
