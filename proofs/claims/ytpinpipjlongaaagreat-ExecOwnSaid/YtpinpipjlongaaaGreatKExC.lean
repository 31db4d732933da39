/- ExC. -/
import Derived.Test.YtpinpipjlongaaaGreatKExB2
import Derived.Test.YtpinpipjlongaaaGreatKCoreM
import Derived.Deep.RegionHeld3
/- Layer 10 (exec): an access. -/
namespace Go.Proofs.YtpinpipjlongaaaGreat
set_option maxRecDepth 100000
open Go.ChangeShapes Go.WideShapes Go.ChangeAt Go.RowKit
set_option linter.unusedVariables false

/-- What an access has in memory, besides the lock: the core, the instruction, the two results and the Out that is made, one behind the other from n on. -/
structure AccI (w x : World) (n : Nat) (xs : List Int) (pc : Int) (i : Ins) (o : Ot) : Prop where
  c : Cb x n xs pc
  i : Ib x (n + 1) i
  r : Cb x (n + 1 + 1) [0, 0, 0, 0, 0, 0, 0, 0] 0
  e : Bk x (n + 1 + 1 + 1) 51 #[.slice none 0 0, .int .i64 0, .int .i64 0, .bool false, .bool false, .int .i64 0]
  o : Bk x (n + 1 + 1 + 1 + 1) 51 #[.slice none 0 0, .int .i64 o.done, .int .i64 o.addr, .bool o.wrote, .bool o.stay, .int .i64 o.e]
theorem AccI.within {w x y : World} {n : Nat} {xs : List Int} {pc : Int} {i : Ins} {o : Ot} {S : Nat → Prop} (h : AccI w x n xs pc i o) (hw : Within x y S) (hn : ∀ j, n ≤ j → ¬ S j) : AccI w y n xs pc i o :=
  ⟨Bk.within h.c hw (hn _ (by omega)), Bk.within h.i hw (hn _ (by omega)), Bk.within h.r hw (hn _ (by omega)), h.e.within hw (hn _ (by omega)), h.o.within hw (hn _ (by omega))⟩
theorem AccI.cells {w x : World} {n : Nat} {xs : List Int} {pc : Int} {i : Ins} {o : Ot} (h : AccI w x n xs pc i o) :
    x.cell? ⟨n + 1 + 1 + 1 + 1, 0, none⟩ = some (.slice none 0 0) ∧ x.cell? ⟨n + 1 + 1 + 1 + 1, 1, none⟩ = some (.int .i64 o.done) ∧ x.cell? ⟨n + 1 + 1 + 1 + 1, 2, none⟩ = some (.int .i64 o.addr) ∧
    x.cell? ⟨n + 1 + 1 + 1 + 1, 3, none⟩ = some (.bool o.wrote) ∧ x.cell? ⟨n + 1 + 1 + 1 + 1, 4, none⟩ = some (.bool o.stay) ∧ x.cell? ⟨n + 1 + 1 + 1 + 1, 5, none⟩ = some (.int .i64 o.e) :=
  ⟨h.o.cell 0, h.o.cell 1, h.o.cell 2, h.o.cell 3, h.o.cell 4, h.o.cell 5⟩

/-- What an access returns: the core behind it, what it comes to; the words are others. -/
def Accd (w : World) (p q g s : Nat) (zs : List Int) (A : Ac) (a : Nat) (e : Ending) (w' : World) : Prop :=
  e = .returned (.tuple #[cv A.c.xs A.c.pc, otV (.slice none 0 0) ⟨[], -1, a, A.wrote, A.stay, 0⟩]) ∧ Mm w' p q g s zs A.ws ∧ Only w w' g

/-- Where the ways of an access meet again: the place isn't yet the next one. -/
def AccM (w : World) (pc : Int) (i : Ins) (a : Nat) (p q g s : Nat) (zs : List Int) (A : Ac) (y : World) : Prop :=
  ∃ xs' wr, xs'.length = 8 ∧ AccI w y w.heap.size xs' pc i ⟨[], -1, a, wr, false, 0⟩ ∧ Mm y p q g s zs A.ws ∧ Only w y g ∧ Hid (A.c = ⟨xs', pc + 1⟩ ∧ A.wrote = wr ∧ A.stay = false)

/-- The blocks of a memory were there ahead of all. -/
structure Ahead (n p q g s : Nat) : Prop where
  p : p < n
  q : q < n
  g : g < n
  s : s < n
section
variable {w y y' : World} {xs : List Int} {pc : Int} {i : Ins} {o : Ot} {p q g s : Nat} {zs ws ys : List Int}
theorem acc_put (hI : AccI w y w.heap.size xs pc i o) (hM : Mm y p q g s zs ws) (hG : Only w y g) (hA : Ahead w.heap.size p q g s) {b : Nat} (hb : w.heap.size ≤ b) (j : Nat) (u : Value) :
    Mm (y.setCell ⟨b, j, none⟩ u) p q g s zs ws ∧ Only w (y.setCell ⟨b, j, none⟩ u) g := by
  obtain ⟨a1, a2, a3, a4⟩ := hA
  refine ⟨hM.within (S := fun i => i = b) ((Within.refl y _).put b j u (.inl rfl)) (by omega) (by omega) (by omega) (by omega), grown_then hG (only_put y b j u) (.inr fun x e => by injection e with e; omega)⟩
theorem acc_reg (hI : AccI w y w.heap.size xs pc i o) (h8 : xs.length = 8) {d : Nat} (hd : d < 8) (v : Int) : AccI w (y.setCell ⟨w.heap.size, d, none⟩ (.int .u32 v)) w.heap.size (xs.set d v) pc i o :=
  ⟨hI.c.set h8 hd v, Bk.off hI.i (p := ⟨w.heap.size, d, none⟩) (by show w.heap.size + 1 ≠ w.heap.size; omega) _, Bk.off hI.r (p := ⟨w.heap.size, d, none⟩) (by show w.heap.size + 1 + 1 ≠ w.heap.size; omega) _, Bk.off hI.e (p := ⟨w.heap.size, d, none⟩) (by show w.heap.size + 1 + 1 + 1 ≠ w.heap.size; omega) _, Bk.off hI.o (p := ⟨w.heap.size, d, none⟩) (by show w.heap.size + 1 + 1 + 1 + 1 ≠ w.heap.size; omega) _⟩
theorem acc_wrote (hI : AccI w y w.heap.size xs pc i o) (b : Bool) : AccI w (y.setCell ⟨w.heap.size + 1 + 1 + 1 + 1, 3, none⟩ (.bool b)) w.heap.size xs pc i { o with wrote := b } :=
  ⟨Bk.off hI.c (p := ⟨w.heap.size + 1 + 1 + 1 + 1, 3, none⟩) (by show w.heap.size ≠ w.heap.size + 1 + 1 + 1 + 1; omega) _, Bk.off hI.i (p := ⟨w.heap.size + 1 + 1 + 1 + 1, 3, none⟩) (by show w.heap.size + 1 ≠ w.heap.size + 1 + 1 + 1 + 1; omega) _, Bk.off hI.r (p := ⟨w.heap.size + 1 + 1 + 1 + 1, 3, none⟩) (by show w.heap.size + 1 + 1 ≠ w.heap.size + 1 + 1 + 1 + 1; omega) _, Bk.off hI.e (p := ⟨w.heap.size + 1 + 1 + 1 + 1, 3, none⟩) (by show w.heap.size + 1 + 1 + 1 ≠ w.heap.size + 1 + 1 + 1 + 1; omega) _, hI.o.put 3 (.bool b)⟩
theorem acc_words (hI : AccI w y w.heap.size xs pc i o) (hM : Mm y p q g s zs ws) (hG : Only w y g) (hA : Ahead w.heap.size p q g s) (hc : Cel y' q g ys) (ho : Only y y' g) (hl : ys.length = ws.length) :
    AccI w y' w.heap.size xs pc i o ∧ Mm y' p q g s zs ys ∧ Only w y' g :=
  ⟨hI.within (S := fun i => i = g) (.of_grown ho (by rintro i e; injection e with e; exact .inl e.symm)) (fun j hj e => by have := hA.g; omega), hM.only hc ho hl, grown_then hG ho (.inl rfl)⟩
end

/-- Six cells of a block are others. -/
def put6 (y : World) (g : Nat) (a b c d e f : Value) : World := ((((((y.setCell ⟨g, 0, none⟩ a).setCell ⟨g, 1, none⟩ b).setCell ⟨g, 2, none⟩ c).setCell ⟨g, 3, none⟩ d).setCell ⟨g, 4, none⟩ e).setCell ⟨g, 5, none⟩ f)
theorem put6_bk {y : World} {g : Nat} {t : TypeId} {x0 x1 x2 x3 x4 x5 : Value} (h : Bk y g t #[x0, x1, x2, x3, x4, x5]) (a b c d e f : Value) : Bk (put6 y g a b c d e f) g t #[a, b, c, d, e, f] := by
  have h8 := (((((h.put 0 a).put 1 b).put 2 c).put 3 d).put 4 e).put 5 f
  unfold put6
  simpa only [List.setIfInBounds_toArray, List.set_cons_zero, List.set_cons_succ] using h8
theorem put6_off {y : World} {g b : Nat} {t : TypeId} {cs : Array Value} (h : Bk y b t cs) (hne : b ≠ g) (a b' c d e f : Value) : Bk (put6 y g a b' c d e f) b t cs :=
  (((((h.off hne _).off hne _).off hne _).off hne _).off hne _).off hne _
theorem put6_within {y : World} {g : Nat} (a b c d e f : Value) : Within y (put6 y g a b c d e f) (fun i => i = g) :=
  ((((((Within.refl y (fun i => i = g)).put g 0 a (.inl rfl)).put g 1 b (.inl rfl)).put g 2 c (.inl rfl)).put g 3 d (.inl rfl)).put g 4 e (.inl rfl)).put g 5 f (.inl rfl)
theorem put6_below {B : Nat} {w y : World} {g : Nat} (h : Below B w y) (hg : B ≤ g) (a b c d e f : Value) : Below B w (put6 y g a b c d e f) :=
  (((((h.setCell hg _).setCell hg _).setCell hg _).setCell hg _).setCell hg _).setCell hg _
theorem put9_within {y : World} {g : Nat} (a b c d e f h i j : Value) : Within y (put9 y g a b c d e f h i j) (fun x => x = g) := by
  unfold put9
  exact (((((((((Within.refl y (fun x => x = g)).put _ 0 _ (.inl rfl)).put _ 1 _ (.inl rfl)).put _ 2 _ (.inl rfl)).put _ 3 _ (.inl rfl)).put _ 4 _ (.inl rfl)).put _ 5 _ (.inl rfl)).put _ 6 _ (.inl rfl)).put _ 7 _ (.inl rfl)).put _ 8 _ (.inl rfl)
/-- The two results laid. -/
theorem acc_end {w y : World} {xs0 : List Int} {pc PC : Int} {i : Ins} {o : Ot} {p q g s : Nat} {zs ws : List Int} (hI : AccI w y w.heap.size xs0 pc i o) (hM : Mm y p q g s zs ws) (hG : Only w y g) (hA : Ahead w.heap.size p q g s) {s0 s1 s2 s3 s4 s5 s6 s7 : Int} {v0 v1 v2 v3 v4 v5 : Value} :
    Cb ((put6 (put9 y (w.heap.size + 1 + 1) (.int .u32 s0) (.int .u32 s1) (.int .u32 s2) (.int .u32 s3) (.int .u32 s4) (.int .u32 s5) (.int .u32 s6) (.int .u32 s7) (.int .i64 PC)) (w.heap.size + 1 + 1 + 1) v0 v1 v2 v3 v4 v5).drew) (w.heap.size + 1 + 1) [s0, s1, s2, s3, s4, s5, s6, s7] PC ∧
    Bk ((put6 (put9 y (w.heap.size + 1 + 1) (.int .u32 s0) (.int .u32 s1) (.int .u32 s2) (.int .u32 s3) (.int .u32 s4) (.int .u32 s5) (.int .u32 s6) (.int .u32 s7) (.int .i64 PC)) (w.heap.size + 1 + 1 + 1) v0 v1 v2 v3 v4 v5).drew) (w.heap.size + 1 + 1 + 1) 51 #[v0, v1, v2, v3, v4, v5] ∧
    Mm ((put6 (put9 y (w.heap.size + 1 + 1) (.int .u32 s0) (.int .u32 s1) (.int .u32 s2) (.int .u32 s3) (.int .u32 s4) (.int .u32 s5) (.int .u32 s6) (.int .u32 s7) (.int .i64 PC)) (w.heap.size + 1 + 1 + 1) v0 v1 v2 v3 v4 v5).drew) p q g s zs ws ∧
    Only w ((put6 (put9 y (w.heap.size + 1 + 1) (.int .u32 s0) (.int .u32 s1) (.int .u32 s2) (.int .u32 s3) (.int .u32 s4) (.int .u32 s5) (.int .u32 s6) (.int .u32 s7) (.int .i64 PC)) (w.heap.size + 1 + 1 + 1) v0 v1 v2 v3 v4 v5).drew) g := by
  obtain ⟨a1, a2, a3, a4⟩ := hA
  have hW1 := put9_within (y := y) (g := w.heap.size + 1 + 1) (.int .u32 s0) (.int .u32 s1) (.int .u32 s2) (.int .u32 s3) (.int .u32 s4) (.int .u32 s5) (.int .u32 s6) (.int .u32 s7) (.int .i64 PC)
  have h9 : Cb (put9 y (w.heap.size + 1 + 1) (.int .u32 s0) (.int .u32 s1) (.int .u32 s2) (.int .u32 s3) (.int .u32 s4) (.int .u32 s5) (.int .u32 s6) (.int .u32 s7) (.int .i64 PC)) (w.heap.size + 1 + 1) [s0, s1, s2, s3, s4, s5, s6, s7] PC := put9_bk hI.r (.int .u32 s0) (.int .u32 s1) (.int .u32 s2) (.int .u32 s3) (.int .u32 s4) (.int .u32 s5) (.int .u32 s6) (.int .u32 s7) (.int .i64 PC)
  have h9' : Bk (put9 y (w.heap.size + 1 + 1) (.int .u32 s0) (.int .u32 s1) (.int .u32 s2) (.int .u32 s3) (.int .u32 s4) (.int .u32 s5) (.int .u32 s6) (.int .u32 s7) (.int .i64 PC)) (w.heap.size + 1 + 1 + 1) _ _ := put9_off hI.e (by omega) (.int .u32 s0) (.int .u32 s1) (.int .u32 s2) (.int .u32 s3) (.int .u32 s4) (.int .u32 s5) (.int .u32 s6) (.int .u32 s7) (.int .i64 PC)
  generalize put9 y (w.heap.size + 1 + 1) (.int .u32 s0) (.int .u32 s1) (.int .u32 s2) (.int .u32 s3) (.int .u32 s4) (.int .u32 s5) (.int .u32 s6) (.int .u32 s7) (.int .i64 PC) = z1 at *
  have hW2 := put6_within (y := z1) (g := w.heap.size + 1 + 1 + 1) v0 v1 v2 v3 v4 v5
  have r1 : Cb (put6 z1 (w.heap.size + 1 + 1 + 1) v0 v1 v2 v3 v4 v5) _ _ _ := put6_off h9 (by omega) v0 v1 v2 v3 v4 v5
  have r2 := put6_bk h9' v0 v1 v2 v3 v4 v5
  generalize put6 z1 (w.heap.size + 1 + 1 + 1) v0 v1 v2 v3 v4 v5 = z2 at *
  have hW : Within y z2 (fun i => i = w.heap.size + 1 + 1 ∨ i = w.heap.size + 1 + 1 + 1) := (hW1.wide (fun i e _ => .inl e)).then_ hW2 (fun i e => .inl (.inr e))
  refine ⟨r1, r2, (hM.within hW (by omega) (by omega) (by omega) (by omega)).drewN 1, ?_⟩
  have h1 : w.grownBy y (some g) := hG
  refine grown_draws (n := 1) ⟨hW.os.trans h1.os, hW.tape.trans h1.tape, hW.output.trans h1.output, Nat.le_trans h1.size hW.size, fun i hi hne => ?_⟩
  exact (hW.block i (Nat.lt_of_lt_of_le hi h1.size) (by omega)).trans (h1.block i hi hne)
/-- The same, with the memory and the lock's own cell that leads to it. -/
structure AccS (w : World) (xs : List Int) (pc : Int) (i : Ins) (o : Ot) (p q g s : Nat) (zs ws : List Int) (x : Nat) (W : World) : Prop where
  ai : AccI w W w.heap.size xs pc i o
  am : Mm W p q g s zs ws
  ao : Only w W g
  ax : W.cell? ⟨x, 3, none⟩ = some (.pointer (some ⟨p, 0, none⟩))
  al : x < w.heap.size
theorem AccS.below {w W W' : World} {xs : List Int} {pc : Int} {i : Ins} {o : Ot} {p q g s : Nat} {zs ws : List Int} {x : Nat} (h : AccS w xs pc i o p q g s zs ws x W) (hb : Below W.heap.size W W') : AccS w xs pc i o p q g s zs ws x W' :=
  ⟨h.ai.within (within_of_below hb) (by simp), h.am.grown (grown_of_below hb), grown_then h.ao (grown_of_below hb) (.inr (by simp)), (hb.cell (p := ⟨x, 3, none⟩) (Nat.lt_of_lt_of_le h.al h.ao.size)).trans h.ax, h.al⟩
/-- Ahead of the stores of an await's line; behind the first one; behind both. -/
def AccW (w : World) (i : Ins) (a p q g s : Nat) (zs ws : List Int) (x : Nat) (c0 c1 : Cor) (st : Bool) : Nat → World → Prop
  | 0, W => AccS w c0.xs c0.pc i ⟨[], -1, a, false, false, 0⟩ p q g s zs ws x W
  | 1, W => AccS w c1.xs c1.pc i ⟨[], -1, a, false, false, 0⟩ p q g s zs ws x W
  | _, W => AccS w c1.xs c1.pc i ⟨[], -1, a, false, st, 0⟩ p q g s zs ws x W
theorem accW_below {w : World} {i : Ins} {a p q g s : Nat} {zs ws : List Int} {x : Nat} {c0 c1 : Cor} {st : Bool} {k : Nat} {W W' : World} (h : AccW w i a p q g s zs ws x c0 c1 st k W) (hb : Below W.heap.size W W') : AccW w i a p q g s zs ws x c0 c1 st k W' := by
  match k, h with
  | 0, h => exact AccS.below h hb
  | 1, h => exact AccS.below h hb
  | _ + 2, h => exact AccS.below h hb
theorem accS_core {w W : World} {r0 r1 r2 r3 r4 r5 r6 r7 s0 s1 s2 s3 s4 s5 s6 s7 pc PC : Int} {i : Ins} {o : Ot} {p q g s : Nat} {zs ws : List Int} {x : Nat} (hA : Ahead w.heap.size p q g s) (h : AccS w [r0, r1, r2, r3, r4, r5, r6, r7] pc i o p q g s zs ws x W) :
    AccS w [s0, s1, s2, s3, s4, s5, s6, s7] PC i o p q g s zs ws x (put9 W w.heap.size (.int .u32 s0) (.int .u32 s1) (.int .u32 s2) (.int .u32 s3) (.int .u32 s4) (.int .u32 s5) (.int .u32 s6) (.int .u32 s7) (.int .i64 PC)) := by
  obtain ⟨j1, j2, j3, j4, j5⟩ := h
  obtain ⟨a1, a2, a3, a4⟩ := hA
  have hW := put9_within (y := W) (g := w.heap.size) (.int .u32 s0) (.int .u32 s1) (.int .u32 s2) (.int .u32 s3) (.int .u32 s4) (.int .u32 s5) (.int .u32 s6) (.int .u32 s7) (.int .i64 PC)
  have h1 : Cb (put9 W w.heap.size (.int .u32 s0) (.int .u32 s1) (.int .u32 s2) (.int .u32 s3) (.int .u32 s4) (.int .u32 s5) (.int .u32 s6) (.int .u32 s7) (.int .i64 PC)) w.heap.size [s0, s1, s2, s3, s4, s5, s6, s7] PC := put9_bk j1.c (.int .u32 s0) (.int .u32 s1) (.int .u32 s2) (.int .u32 s3) (.int .u32 s4) (.int .u32 s5) (.int .u32 s6) (.int .u32 s7) (.int .i64 PC)
  generalize put9 W w.heap.size (.int .u32 s0) (.int .u32 s1) (.int .u32 s2) (.int .u32 s3) (.int .u32 s4) (.int .u32 s5) (.int .u32 s6) (.int .u32 s7) (.int .i64 PC) = z at *
  refine ⟨⟨h1, Bk.within j1.i hW (by omega), Bk.within j1.r hW (by omega), j1.e.within hW (by omega), j1.o.within hW (by omega)⟩, j2.within hW (by omega) (by omega) (by omega) (by omega), ?_, ?_, j5⟩
  · have h2 : w.grownBy W (some g) := j3
    exact ⟨hW.os.trans h2.os, hW.tape.trans h2.tape, hW.output.trans h2.output, Nat.le_trans h2.size hW.size, fun i hi hne => (hW.block i (Nat.lt_of_lt_of_le hi h2.size) (by omega)).trans (h2.block i hi hne)⟩
  · rw [← j4]
    exact World.cell?_of_block (hW.block x (Nat.lt_of_lt_of_le j5 j3.size) (by omega))
theorem accS_stay {w W : World} {xs : List Int} {pc : Int} {i : Ins} {a p q g s : Nat} {zs ws : List Int} {x : Nat} (hA : Ahead w.heap.size p q g s) (h : AccS w xs pc i ⟨[], -1, a, false, false, 0⟩ p q g s zs ws x W) (st : Bool) :
    AccS w xs pc i ⟨[], -1, a, false, st, 0⟩ p q g s zs ws x (W.setCell ⟨w.heap.size + 1 + 1 + 1 + 1, 4, none⟩ (.bool st)) := by
  obtain ⟨j1, j2, j3, j4, j5⟩ := h
  obtain ⟨k1, k2⟩ := acc_put j1 j2 j3 hA (b := w.heap.size + 1 + 1 + 1 + 1) (by omega) 4 (.bool st)
  refine ⟨⟨Bk.off j1.c (p := ⟨w.heap.size + 1 + 1 + 1 + 1, 4, none⟩) (by show w.heap.size ≠ w.heap.size + 1 + 1 + 1 + 1; omega) _, Bk.off j1.i (p := ⟨w.heap.size + 1 + 1 + 1 + 1, 4, none⟩) (by show w.heap.size + 1 ≠ w.heap.size + 1 + 1 + 1 + 1; omega) _, Bk.off j1.r (p := ⟨w.heap.size + 1 + 1 + 1 + 1, 4, none⟩) (by show w.heap.size + 1 + 1 ≠ w.heap.size + 1 + 1 + 1 + 1; omega) _, Bk.off j1.e (p := ⟨w.heap.size + 1 + 1 + 1 + 1, 4, none⟩) (by show w.heap.size + 1 + 1 + 1 ≠ w.heap.size + 1 + 1 + 1 + 1; omega) _, j1.o.put 4 (.bool st)⟩, k1, k2, ?_, j5⟩
  rw [← j4]
  exact cell_off (by omega)
section
variable {w w' : World} {X : XP} {k : Lk} {m : Mc}
set_option maxHeartbeats 4000000 in
theorem xAccess (h : Ex w X k m) (c : Cor) (i : Ins) (n a : Nat) (late : Bool) (hx : Eight c.xs) (hi : OkM i n) (h22 : i.op ≠ 22) (h23 : i.op ≠ 23) (ha : a < m.ws.length) (hp0 : 0 ≤ c.pc) (hp1 : c.pc < 1000) :
    Calls Tryz.prog 55 #[.pointer (some ⟨X.x, 0, none⟩), cv c.xs c.pc, iv i, .int .i64 a, .bool late] w (Accd w X.p X.q X.g X.s k.zs (accW m.ws c late i a) a) := by
  have hd := hi.d
  have ht := hi.t
  have hu := hi.u
  have hop := hi.op
  have HAW : Hid (∀ v W, i.op = 21 → 0 ≤ v ∧ v < 4294967296 → Calls Tryz.prog 87 #[cv c.xs c.pc, iv i, .int .u32 v, .bool late] W (Awaited W (awaitC c i v late).1 (awaitC c i v late).2)) := Lib.hid fun v W h21 hv => xAwait c i n v late W hx hi h21 hv hp0 hp1
  obtain ⟨xs, pc⟩ := c
  obtain ⟨op, d, s, t, u, a', k', pl⟩ := i
  simp only at hd ht hu hop hx hp0 hp1 h22 h23
  obtain ⟨dn, rfl⟩ : ∃ n : Nat, d = n := ⟨d.toNat, by omega⟩
  obtain ⟨tn, rfl⟩ : ∃ n : Nat, t = n := ⟨t.toNat, by omega⟩
  obtain ⟨un, rfl⟩ : ∃ n : Nat, u = n := ⟨u.toNat, by omega⟩
  have hd8 : dn < 8 := by omega
  have ht8 : tn < 8 := by omega
  have hu8 : un < 8 := by omega
  have hT := hx.2.at_ tn
  have hU := hx.2.at_ un
  obtain ⟨r0, r1, r2, r3, r4, r5, r6, r7, rfl⟩ := eight_cons hx.1
  obtain ⟨A, hA⟩ : ∃ A, A = accW m.ws ⟨[r0, r1, r2, r3, r4, r5, r6, r7], pc⟩ late ⟨op, dn, s, tn, un, a', k', pl⟩ a := ⟨_, rfl⟩
  rw [← hA]
  have HA := Lib.hid hA
  clear hA
  have q0 := Cb.made w [r0, r1, r2, r3, r4, r5, r6, r7] pc
  have q1 := Ib.made (w.alloc (.cells (corC [r0, r1, r2, r3, r4, r5, r6, r7] pc).toArray 66)) op dn s tn un a' k' pl
  have q2 := Cb.made ((w.alloc (.cells (corC [r0, r1, r2, r3, r4, r5, r6, r7] pc).toArray 66)).alloc (.cells #[.int .i64 op, .int .i64 dn, .int .i64 s, .int .i64 tn, .int .i64 un, .int .i64 a', .int .u32 k', .int .i64 pl] 45)) [0, 0, 0, 0, 0, 0, 0, 0] 0
  have q3 := Bk.made (((w.alloc (.cells (corC [r0, r1, r2, r3, r4, r5, r6, r7] pc).toArray 66)).alloc (.cells #[.int .i64 op, .int .i64 dn, .int .i64 s, .int .i64 tn, .int .i64 un, .int .i64 a', .int .u32 k', .int .i64 pl] 45)).alloc (.cells (corC [0, 0, 0, 0, 0, 0, 0, 0] 0).toArray 66)) 51 #[.slice none 0 0, .int .i64 0, .int .i64 0, .bool false, .bool false, .int .i64 0]
  have q4 := Bk.made ((((w.alloc (.cells (corC [r0, r1, r2, r3, r4, r5, r6, r7] pc).toArray 66)).alloc (.cells #[.int .i64 op, .int .i64 dn, .int .i64 s, .int .i64 tn, .int .i64 un, .int .i64 a', .int .u32 k', .int .i64 pl] 45)).alloc (.cells (corC [0, 0, 0, 0, 0, 0, 0, 0] 0).toArray 66)).alloc (.cells #[.slice none 0 0, .int .i64 0, .int .i64 0, .bool false, .bool false, .int .i64 0] 51)) 51 #[.slice none 0 0, .int .i64 (-1), .int .i64 a, .bool false, .bool false, .int .i64 0]
  simp only [World.size_alloc] at q1 q2 q3 q4
  have hI : AccI w _ w.heap.size [r0, r1, r2, r3, r4, r5, r6, r7] pc ⟨op, dn, s, tn, un, a', k', pl⟩ ⟨[], -1, a, false, false, 0⟩ := ⟨Bk.alloc (Bk.alloc (Bk.alloc (Bk.alloc q0 _) _) _) _, Bk.alloc (Bk.alloc (Bk.alloc q1 _) _) _, Bk.alloc (Bk.alloc q2 _) _, Bk.alloc q3 _, q4⟩
  have b0 : Below w.heap.size w (((((w.alloc (.cells (corC [r0, r1, r2, r3, r4, r5, r6, r7] pc).toArray 66)).alloc (.cells #[.int .i64 op, .int .i64 dn, .int .i64 s, .int .i64 tn, .int .i64 un, .int .i64 a', .int .u32 k', .int .i64 pl] 45)).alloc (.cells (corC [0, 0, 0, 0, 0, 0, 0, 0] 0).toArray 66)).alloc (.cells #[.slice none 0 0, .int .i64 0, .int .i64 0, .bool false, .bool false, .int .i64 0] 51)).alloc (.cells #[.slice none 0 0, .int .i64 (-1), .int .i64 a, .bool false, .bool false, .int .i64 0] 51)) := ((((((Below.refl _ _).alloc (Nat.le_refl _) _).alloc (by simp) _).alloc (by simp; omega) _).alloc (by simp; omega) _).alloc (by simp; omega) _)
  clear q0 q1 q2 q3 q4
  unfold cv iv at *
  simp only [corC, List.map_cons, List.map_nil, List.cons_append, List.nil_append] at hI b0 HAW ⊢
  go_enter Tryz.func55, Tryz.ntmps55
  go_upto_region 2 with fail
  generalize ((((w.alloc (.cells #[.int .u32 r0, .int .u32 r1, .int .u32 r2, .int .u32 r3, .int .u32 r4, .int .u32 r5, .int .u32 r6, .int .u32 r7, .int .i64 pc] 66)).alloc (.cells #[.int .i64 op, .int .i64 dn, .int .i64 s, .int .i64 tn, .int .i64 un, .int .i64 a', .int .u32 k', .int .i64 pl] 45)).alloc (.cells #[.int .u32 0, .int .u32 0, .int .u32 0, .int .u32 0, .int .u32 0, .int .u32 0, .int .u32 0, .int .u32 0, .int .i64 0] 66)).alloc (.cells #[.slice none 0 0, .int .i64 0, .int .i64 0, .bool false, .bool false, .int .i64 0] 51)).alloc (.cells #[.slice none 0 0, .int .i64 (-1), .int .i64 a, .bool false, .bool false, .int .i64 0] 51) = x at *
  have h2 := h.below b0
  have cT := hI.c.at_ rfl ht8
  have cU := hI.c.at_ rfl hu8
  obtain ⟨e0, e1, e2, e3, e4, e5, e6, e7⟩ := hI.i.cells
  simp only at e0 e1 e2 e3 e4 e5 e6 e7
  generalize hVe : nth [r0, r1, r2, r3, r4, r5, r6, r7] tn = V at *
  have EV := Lib.hid hVe
  generalize hUe : nth [r0, r1, r2, r3, r4, r5, r6, r7] un = U at *
  have EU := Lib.hid hUe
  clear hVe hUe
  go_quiet (fail)
  replace hI := hI.within ((Within.refl x (fun _ => False)).draws nq) (by simp)
  replace h2 := h2.below (below_drewN (Below.refl _ _) nq)
  replace b0 := below_drewN b0 nq
  generalize x.drewN nq = y at *
  clear cT cU e0 e1 e2 e3 e4 e5 e6 e7
  obtain ⟨e0, e1, e2, e3, e4, e5, e6, e7⟩ := hI.i.cells
  simp only at e0 e1 e2 e3 e4 e5 e6 e7
  have x3 := h2.c3
  have p0 := h2.mem.c0
  have hM := h2.mem
  have hG : Only w y X.g := grown_any (grown_of_below b0)
  have hAh : Ahead w.heap.size X.p X.q X.g X.s := ⟨h.mem.ptr.lt, h.mem.cel.ptr.lt, h.mem.cel.row.lt, h.mem.row.lt⟩
  have hLd := Lib.hid (fun W (hW : Mm W X.p X.q X.g X.s k.zs m.ws) => cLoad hW.cel a ha)
  have hw1 : Hid (wrap64 (pc + 1) = pc + 1) := Lib.hid (IntWalk.wrap64_in _ (by omega))
  have hdi0 : (0 : Int) ≤ dn := by omega
  have HX3 : Hid (∀ W, Only (y.drewN 1) W X.g → W.cell? ⟨X.x, 3, none⟩ = some (.pointer (some ⟨X.p, 0, none⟩))) := Lib.hid fun W hW => ((h2.ptr.drewN 1).grown hW (fun e => by injection e with e; exact h2.ptr.unlike h2.mem.cel.row (by decide) e)).cell 3
  have hdi1 : (dn : Int) < 8 := by omega
  have kx : ∀ (W : World) (u : Value) (i j : Nat), (W.setCell ⟨w.heap.size, i, none⟩ u).cell? ⟨X.x, j, none⟩ = W.cell? ⟨X.x, j, none⟩ := fun W u i j => cell_off (by have := h.ptr.lt; omega)
  have kp : ∀ (W : World) (u : Value) (i j : Nat), (W.setCell ⟨w.heap.size, i, none⟩ u).cell? ⟨X.p, j, none⟩ = W.cell? ⟨X.p, j, none⟩ := fun W u i j => cell_off (by have := h.mem.ptr.lt; omega)
  have HWA : Hid (0 ≤ nth m.ws a ∧ nth m.ws a < 4294967296) := Lib.hid (h.mc.ws.at_ a)
  have HE8 := Lib.hid hx
  have HXL : Hid (X.x < w.heap.size) := Lib.hid h.ptr.lt
  have hk32 := hi.k
  simp only at hk32
  clear b0 h h2 hx hi hd ht hu hp0 hp1
  go_upto_block 0 with fail
  go_cut [12] (fun v wx => v = .pointer (some ⟨w.heap.size + 1 + 1 + 1 + 1, 0, none⟩) ∧ AccM w pc ⟨op, dn, s, tn, un, a', k', pl⟩ a X.p X.q X.g X.s k.zs A wx)
  case first =>
    by_cases h16 : op = 16
    · subst h16
      have cD := hI.c.at_ rfl hd8
      have zf := Bk.free hI.c
      go_upto_region 5 with fail
      generalize nth [r0, r1, r2, r3, r4, r5, r6, r7] dn = VD at *
      go_region_held3 (fun W => W.cell? ⟨X.x, 3, none⟩ = some (.pointer (some ⟨X.p, 0, none⟩)) ∧ W.cell? ⟨X.p, 0, none⟩ = some (.pointer (some ⟨X.q, 0, none⟩)) ∧ W.cell? ⟨w.heap.size + 1, 1, none⟩ = some (.int .i64 dn)) (first | (exact ⟨x3, p0, e1⟩) | go_keep)
        (first | (go_at_call 83; refine (hLd.out _ (hM.drewN _)).mono ?_; rintro e w' ⟨rfl, rfl⟩))
      all_goals (
        obtain ⟨g1, g2⟩ := acc_put (hI.within ((Within.refl y (fun _ => False)).draws 1) (by simp)) (hM.drewN 1) (grown_draws hG 1) hAh (Nat.le_refl _) dn (.int .u32 (nth m.ws a))
        have g3 := acc_reg (hI.within ((Within.refl y (fun _ => False)).draws 1) (by simp)) rfl hd8 (nth m.ws a)
        have GM : Hid (AccM w pc ⟨16, dn, s, tn, un, a', k', pl⟩ a X.p X.q X.g X.s k.zs A ((y.drewN 1).setCell ⟨w.heap.size, dn, none⟩ (.int .u32 (nth m.ws a)))) := Lib.hid (by
          have e : A = ⟨m.ws, ⟨[r0, r1, r2, r3, r4, r5, r6, r7].set dn (nth m.ws a), pc + 1⟩, false, false⟩ := by rw [HA.out]; simp [accW]
          exact ⟨_, false, by simp, g3, by rw [e]; exact g1, g2, Lib.hid (by rw [e]; exact ⟨rfl, rfl, rfl⟩)⟩)
        clear g1 g2 g3 hM hG hI x3 p0 kx kp e0 e1 e2 e3 e4 e5 e6 e7
        go_wp2
        go_meet
        case rel => exact ⟨rfl, GM.out⟩)
    · by_cases h17 : op = 17
      · subst h17
        go_wp2_with fail
        refine (cStore hM.cel a ha V hT).mono ?_
        rintro e y3 ⟨rfl, hc, ho⟩
        obtain ⟨g1, g2, g3⟩ := acc_words hI hM hG hAh hc ho (by simp)
        clear hM hG hI x3 p0 kx kp e0 e1 e2 e3 e4 e5 e6 e7 hc ho
        obtain ⟨o0, o1, o2, o3, o4, o5⟩ := g1.cells
        have zf := Bk.free g1.o
        simp only at o0 o1 o2 o3 o4 o5
        obtain ⟨k1, k2⟩ := acc_put g1 g2 g3 hAh (b := w.heap.size + 1 + 1 + 1 + 1) (by omega) 3 (.bool true)
        have k3 := acc_wrote g1 true
        have GM : Hid (AccM w pc ⟨17, dn, s, tn, un, a', k', pl⟩ a X.p X.q X.g X.s k.zs A (y3.setCell ⟨w.heap.size + 1 + 1 + 1 + 1, 3, none⟩ (.bool true))) := Lib.hid (by
          have e : A = ⟨m.ws.set a V, ⟨[r0, r1, r2, r3, r4, r5, r6, r7], pc + 1⟩, true, false⟩ := by rw [HA.out]; simp [accW, EV.out]
          exact ⟨_, true, rfl, k3, by rw [e]; exact k1, k2, Lib.hid (by rw [e]; exact ⟨rfl, rfl, rfl⟩)⟩)
        clear g1 g2 g3 k1 k2 k3
        go_wp2
        go_meet
        case rel => exact ⟨rfl, GM.out⟩
      by_cases h18 : op = 18
      · subst h18
        have cD := hI.c.at_ rfl hd8
        have zf := Bk.free hI.c
        have HSW := Lib.hid (cSwap (hM.drewN 1).cel a ha V hT)
        have HIM := Lib.hid (And.intro (hI.within ((Within.refl y (fun _ => False)).draws 1) (by simp)) (And.intro (hM.drewN 1) (grown_draws hG 1)))
        go_upto_region 10 with fail
        generalize nth [r0, r1, r2, r3, r4, r5, r6, r7] dn = VD at *
        go_region_held3 (fun W => W.cell? ⟨X.x, 3, none⟩ = some (.pointer (some ⟨X.p, 0, none⟩)) ∧ W.cell? ⟨X.p, 0, none⟩ = some (.pointer (some ⟨X.q, 0, none⟩)) ∧ W.cell? ⟨w.heap.size + 1, 1, none⟩ = some (.int .i64 dn)) (first | (exact ⟨x3, p0, e1⟩) | (exact ⟨f1, f2, f3⟩) | go_keep)
          (first | (go_at_call 84; refine HSW.out.mono ?_; rintro e w4 ⟨rfl, hc4, ho4⟩; obtain ⟨j1, j2, j3⟩ := acc_words HIM.out.1 HIM.out.2.1 HIM.out.2.2 hAh hc4 ho4 (by simp); have f1 : w4.cell? ⟨X.x, 3, none⟩ = some (.pointer (some ⟨X.p, 0, none⟩)) := (HX3.out w4 ho4); have f2 := j2.c0; have f3 : w4.cell? ⟨w.heap.size + 1, 1, none⟩ = some (.int .i64 dn) := (j1.i.cells).2.1; have f4 := j1.c.at_ rfl hd8; have f5 := Bk.free j1.c))
        all_goals (
          clear f1 f2 f3 f4 f5 HIM HSW hM hG hI x3 p0 e0 e1 e2 e3 e4 e5 e6 e7
          obtain ⟨k1, k2⟩ := acc_put j1 j2 j3 hAh (Nat.le_refl _) dn (.int .u32 (nth m.ws a))
          have k3 := acc_reg j1 rfl hd8 (nth m.ws a)
          obtain ⟨s0, s1, s2, s3, s4, s5, s6, s7, hs⟩ := eight_cons (xs := [r0, r1, r2, r3, r4, r5, r6, r7].set dn (nth m.ws a)) (by simp)
          have HS := Lib.hid hs
          rw [hs] at k3
          clear j1 j2 j3 hc4 ho4 hs kx kp
          generalize w4.setCell ⟨w.heap.size, dn, none⟩ (.int .u32 (nth m.ws a)) = y3 at *
          obtain ⟨o0, o1, o2, o3, o4, o5⟩ := k3.cells
          have zf := Bk.free k3.o
          simp only at o0 o1 o2 o3 o4 o5
          obtain ⟨l1, l2⟩ := acc_put k3 k1 k2 hAh (b := w.heap.size + 1 + 1 + 1 + 1) (by omega) 3 (.bool true)
          have l3 := acc_wrote k3 true
          have GM : Hid (AccM w pc ⟨18, dn, s, tn, un, a', k', pl⟩ a X.p X.q X.g X.s k.zs A (y3.setCell ⟨w.heap.size + 1 + 1 + 1 + 1, 3, none⟩ (.bool true))) := Lib.hid (by
            have e : A = ⟨m.ws.set a V, ⟨[s0, s1, s2, s3, s4, s5, s6, s7], pc + 1⟩, true, false⟩ := by rw [HA.out]; simp only [accW]; simp [EV.out, HS.out]
            exact ⟨_, true, rfl, l3, by rw [e]; exact l1, l2, Lib.hid (by rw [e]; exact ⟨rfl, rfl, rfl⟩)⟩)
          clear k1 k2 k3 l1 l2 l3
          go_wp2
          go_meet
          case rel => exact ⟨rfl, GM.out⟩)
      by_cases h19 : op = 19
      · subst h19
        have cD := hI.c.at_ rfl hd8
        have zf := Bk.free hI.c
        generalize nth [r0, r1, r2, r3, r4, r5, r6, r7] dn = VD at *
        by_cases hVe : nth m.ws a = V
        · have HC := Lib.hid (cCasHit hM.cel a ha U hU)
          rw [hVe] at HC
          go_wp2_with fail
          refine HC.out.mono ?_
          rintro e y3 ⟨rfl, hc, ho⟩
          obtain ⟨g1, g2, g3⟩ := acc_words hI hM hG hAh hc ho (by simp)
          have HV := Lib.hid hVe
          clear hM hG hI x3 p0 kx kp e0 e1 e2 e3 e4 e5 e6 e7 hc ho HC hVe cD zf
          obtain ⟨o0, o1, o2, o3, o4, o5⟩ := g1.cells
          have zf := Bk.free g1.o
          simp only at o0 o1 o2 o3 o4 o5
          obtain ⟨k1, k2⟩ := acc_put g1 g2 g3 hAh (b := w.heap.size + 1 + 1 + 1 + 1) (by omega) 3 (.bool true)
          have k3 := acc_wrote g1 true
          go_upto_region 14 with fail
          clear g1 g2 g3 o0 o1 o2 o3 o4 o5 zf
          generalize y3.setCell ⟨w.heap.size + 1 + 1 + 1 + 1, 3, none⟩ (.bool true) = y4 at *
          obtain ⟨e0, e1, e2, e3, e4, e5, e6, e7⟩ := k3.i.cells
          have cD := k3.c.at_ rfl hd8
          have zf := Bk.free k3.c
          simp only at e0 e1 e2 e3 e4 e5 e6 e7
          obtain ⟨g1, g2⟩ := acc_put k3 k1 k2 hAh (Nat.le_refl _) dn (.int .u32 0)
          have g3 := acc_reg k3 rfl hd8 0
          obtain ⟨s0, s1, s2, s3, s4, s5, s6, s7, hs⟩ := eight_cons (xs := [r0, r1, r2, r3, r4, r5, r6, r7].set dn 0) (by simp)
          rw [hs] at g3
          have HS := Lib.hid hs
          generalize nth [r0, r1, r2, r3, r4, r5, r6, r7] dn = VD2 at *
          go_upto_region 15 with fail
          clear k1 k2 k3 e0 e1 e2 e3 e4 e5 e6 e7 cD zf hs
          generalize y4.setCell ⟨w.heap.size, dn, none⟩ (.int .u32 0) = y5 at *
          obtain ⟨o0, o1, o2, o3, o4, o5⟩ := g3.cells
          simp only at o0 o1 o2 o3 o4 o5
          obtain ⟨e0, e1, e2, e3, e4, e5, e6, e7⟩ := g3.i.cells
          have cD := g3.c.at_ rfl hd8
          have zf := Bk.free g3.c
          simp only at e0 e1 e2 e3 e4 e5 e6 e7
          obtain ⟨k1, k2⟩ := acc_put g3 g1 g2 hAh (Nat.le_refl _) dn (.int .u32 1)
          have k3 := acc_reg g3 rfl hd8 1
          generalize nth [s0, s1, s2, s3, s4, s5, s6, s7] dn = VD3 at *
          have GM : Hid (AccM w pc ⟨19, dn, s, tn, un, a', k', pl⟩ a X.p X.q X.g X.s k.zs A (y5.setCell ⟨w.heap.size, dn, none⟩ (.int .u32 1))) := Lib.hid (by
            have e : A = ⟨m.ws.set a U, ⟨[s0, s1, s2, s3, s4, s5, s6, s7].set dn 1, pc + 1⟩, true, false⟩ := by rw [HA.out, ← HS.out, List.set_set]; simp only [accW]; simp [EV.out, EU.out, HV.out]
            exact ⟨_, true, by simp, k3, by rw [e]; exact k1, k2, Lib.hid (by rw [e]; exact ⟨rfl, rfl, rfl⟩)⟩)
          clear k1 k2 k3 g1 g2 g3
          go_wp2
          go_meet
          case rel => exact ⟨rfl, GM.out⟩
        · have HC := Lib.hid (cCasMiss hM.cel a ha V U hVe)
          have HV := Lib.hid hVe
          clear hVe
          go_wp2_with fail
          refine HC.out.mono ?_
          rintro e y3 ⟨rfl, hc, ho⟩
          obtain ⟨g1, g2, g3⟩ := acc_words hI hM hG hAh hc ho rfl
          clear hM hG hI x3 p0 kx kp e0 e1 e2 e3 e4 e5 e6 e7 hc ho HC cD zf
          obtain ⟨o0, o1, o2, o3, o4, o5⟩ := g1.cells
          have zf := Bk.free g1.o
          simp only at o0 o1 o2 o3 o4 o5
          obtain ⟨k1, k2⟩ := acc_put g1 g2 g3 hAh (b := w.heap.size + 1 + 1 + 1 + 1) (by omega) 3 (.bool false)
          have k3 := acc_wrote g1 false
          go_upto_region 14 with fail
          clear g1 g2 g3 o0 o1 o2 o3 o4 o5 zf
          generalize y3.setCell ⟨w.heap.size + 1 + 1 + 1 + 1, 3, none⟩ (.bool false) = y4 at *
          obtain ⟨e0, e1, e2, e3, e4, e5, e6, e7⟩ := k3.i.cells
          have cD := k3.c.at_ rfl hd8
          have zf := Bk.free k3.c
          simp only at e0 e1 e2 e3 e4 e5 e6 e7
          obtain ⟨g1, g2⟩ := acc_put k3 k1 k2 hAh (Nat.le_refl _) dn (.int .u32 0)
          have g3 := acc_reg k3 rfl hd8 0
          generalize nth [r0, r1, r2, r3, r4, r5, r6, r7] dn = VD2 at *
          go_upto_region 15 with fail
          clear k1 k2 k3 e0 e1 e2 e3 e4 e5 e6 e7 cD zf
          generalize y4.setCell ⟨w.heap.size, dn, none⟩ (.int .u32 0) = y5 at *
          obtain ⟨o0, o1, o2, o3, o4, o5⟩ := g3.cells
          simp only at o0 o1 o2 o3 o4 o5
          have GM : Hid (AccM w pc ⟨19, dn, s, tn, un, a', k', pl⟩ a X.p X.q X.g X.s k.zs A y5) := Lib.hid (by
            have e : A = ⟨m.ws, ⟨[r0, r1, r2, r3, r4, r5, r6, r7].set dn 0, pc + 1⟩, false, false⟩ := by rw [HA.out]; simp only [accW]; simp [EV.out, HV.out]
            exact ⟨_, false, by simp, g3, by rw [e]; exact g1, g2, Lib.hid (by rw [e]; exact ⟨rfl, rfl, rfl⟩)⟩)
          clear g1 g2 g3
          go_wp2
          go_meet
          case rel => exact ⟨rfl, GM.out⟩
      by_cases h20 : op = 20
      · subst h20
        have cD := hI.c.at_ rfl hd8
        have zf := Bk.free hI.c
        have HSW := Lib.hid (cAdd (hM.drewN 1).cel a ha k' hk32)
        have HIM := Lib.hid (And.intro (hI.within ((Within.refl y (fun _ => False)).draws 1) (by simp)) (And.intro (hM.drewN 1) (grown_draws hG 1)))
        go_upto_region 18 with fail
        generalize nth [r0, r1, r2, r3, r4, r5, r6, r7] dn = VD at *
        go_region_held3 (fun W => W.cell? ⟨X.x, 3, none⟩ = some (.pointer (some ⟨X.p, 0, none⟩)) ∧ W.cell? ⟨X.p, 0, none⟩ = some (.pointer (some ⟨X.q, 0, none⟩)) ∧ W.cell? ⟨w.heap.size + 1, 1, none⟩ = some (.int .i64 dn) ∧ W.cell? ⟨w.heap.size + 1, 6, none⟩ = some (.int .u32 k')) (first | (exact ⟨x3, p0, e1, e6⟩) | (exact ⟨f1, f2, f3, f3'⟩) | go_keep)
          (first | (go_at_call 86; refine HSW.out.mono ?_; rintro e w4 ⟨rfl, hc4, ho4⟩; obtain ⟨j1, j2, j3⟩ := acc_words HIM.out.1 HIM.out.2.1 HIM.out.2.2 hAh hc4 ho4 (by simp); have f1 : w4.cell? ⟨X.x, 3, none⟩ = some (.pointer (some ⟨X.p, 0, none⟩)) := (HX3.out w4 ho4); have f2 := j2.c0; have f3 : w4.cell? ⟨w.heap.size + 1, 1, none⟩ = some (.int .i64 dn) := (j1.i.cells).2.1; have f3' : w4.cell? ⟨w.heap.size + 1, 6, none⟩ = some (.int .u32 k') := (j1.i.cells).2.2.2.2.2.2.1; have f4 := j1.c.at_ rfl hd8; have f5 := Bk.free j1.c))
        all_goals (
          clear f1 f2 f3 f4 f5 HIM HSW f3' hM hG hI x3 p0 e0 e1 e2 e3 e4 e5 e6 e7
          obtain ⟨k1, k2⟩ := acc_put j1 j2 j3 hAh (Nat.le_refl _) dn (.int .u32 (nth m.ws a))
          have k3 := acc_reg j1 rfl hd8 (nth m.ws a)
          obtain ⟨s0, s1, s2, s3, s4, s5, s6, s7, hs⟩ := eight_cons (xs := [r0, r1, r2, r3, r4, r5, r6, r7].set dn (nth m.ws a)) (by simp)
          have HS := Lib.hid hs
          rw [hs] at k3
          clear j1 j2 j3 hc4 ho4 hs kx kp
          generalize w4.setCell ⟨w.heap.size, dn, none⟩ (.int .u32 (nth m.ws a)) = y3 at *
          obtain ⟨o0, o1, o2, o3, o4, o5⟩ := k3.cells
          have zf := Bk.free k3.o
          simp only at o0 o1 o2 o3 o4 o5
          obtain ⟨l1, l2⟩ := acc_put k3 k1 k2 hAh (b := w.heap.size + 1 + 1 + 1 + 1) (by omega) 3 (.bool true)
          have l3 := acc_wrote k3 true
          have GM : Hid (AccM w pc ⟨20, dn, s, tn, un, a', k', pl⟩ a X.p X.q X.g X.s k.zs A (y3.setCell ⟨w.heap.size + 1 + 1 + 1 + 1, 3, none⟩ (.bool true))) := Lib.hid (by
            have e : A = ⟨m.ws.set a (two32 (nth m.ws a + k')), ⟨[s0, s1, s2, s3, s4, s5, s6, s7], pc + 1⟩, true, false⟩ := by rw [HA.out]; simp only [accW]; simp [HS.out, two32]
            exact ⟨_, true, rfl, l3, by rw [e]; exact l1, l2, Lib.hid (by rw [e]; exact ⟨rfl, rfl, rfl⟩)⟩)
          clear k1 k2 k3 l1 l2 l3
          go_wp2
          go_meet
          case rel => exact ⟨rfl, GM.out⟩)
      have h21 : op = 21 := by omega
      subst h21
      obtain ⟨AWC, hAWC⟩ : ∃ q, q = awaitC ⟨[r0, r1, r2, r3, r4, r5, r6, r7], pc⟩ ⟨21, dn, s, tn, un, a', k', pl⟩ (nth m.ws a) late := ⟨_, rfl⟩
      have hE : Eight AWC.1.xs := by rw [hAWC]; exact awaitC_eight HWA.out HE8.out
      obtain ⟨s0, s1, s2, s3, s4, s5, s6, s7, hs⟩ := eight_cons hE.1
      obtain ⟨PC, hPC⟩ : ∃ q, q = AWC.1.pc := ⟨_, rfl⟩
      obtain ⟨ST, hST⟩ : ∃ q, q = AWC.2 := ⟨_, rfl⟩
      have HA2 : Hid (A = ⟨m.ws, ⟨[s0, s1, s2, s3, s4, s5, s6, s7], PC⟩, false, ST⟩) := Lib.hid (by
        rw [HA.out]
        simp only [accW]
        simp [← hAWC, hST, hPC, ← hs])
      have HAW2 : Hid (∀ W, Calls Tryz.prog 87 #[.agg #[.int .u32 r0, .int .u32 r1, .int .u32 r2, .int .u32 r3, .int .u32 r4, .int .u32 r5, .int .u32 r6, .int .u32 r7, .int .i64 pc], .agg #[.int .i64 21, .int .i64 dn, .int .i64 s, .int .i64 tn, .int .i64 un, .int .i64 a', .int .u32 k', .int .i64 pl], .int .u32 (nth m.ws a), .bool late] W fun e w' => e = .returned (.tuple #[.agg #[.int .u32 s0, .int .u32 s1, .int .u32 s2, .int .u32 s3, .int .u32 s4, .int .u32 s5, .int .u32 s6, .int .u32 s7, .int .i64 PC], .bool ST]) ∧ Below W.heap.size W w') := Lib.hid fun W => (HAW.out (nth m.ws a) W rfl HWA.out).mono fun e w' ⟨h1, h2⟩ => ⟨by
        rw [h1, ← hAWC, ← hST]
        unfold cv corC
        rw [hs, ← hPC]
        rfl, h2⟩
      have hS0 : AccS w [r0, r1, r2, r3, r4, r5, r6, r7] pc ⟨21, dn, s, tn, un, a', k', pl⟩ ⟨[], -1, a, false, false, 0⟩ X.p X.q X.g X.s k.zs m.ws X.x y := ⟨hI, hM, hG, x3, HXL.out⟩
      clear hAWC hE hs hPC hST hI hM hG x3 p0 kx kp e0 e1 e2 e3 e4 e5 e6 e7 HA HAW hdi0 hdi1 hk32 HX3
      go_upto_region 21 with fail
      refine wp_region_flow [16, 18] (AccW w ⟨21, dn, s, tn, un, a', k', pl⟩ a X.p X.q X.g X.s k.zs m.ws X.x ⟨[r0, r1, r2, r3, r4, r5, r6, r7], pc⟩ ⟨[s0, s1, s2, s3, s4, s5, s6, s7], PC⟩ ST) (fun _ _ _ => True) (fun vs => { tmps := #[.pointer (some ⟨X.x, 0, none⟩), .agg #[.int .u32 r0, .int .u32 r1, .int .u32 r2, .int .u32 r3, .int .u32 r4, .int .u32 r5, .int .u32 r6, .int .u32 r7, .int .i64 pc], .agg #[.int .i64 21, .int .i64 (dn : Int), .int .i64 s, .int .i64 (tn : Int), .int .i64 (un : Int), .int .i64 a', .int .u32 k', .int .i64 pl], .int .i64 (a : Int), .bool late, undef, .pointer (some ⟨w.heap.size, 0, none⟩), .pointer (some ⟨w.heap.size + 1, 0, none⟩), undef, undef, .pointer (some ⟨w.heap.size + 1 + 1, 0, none⟩), .pointer (some ⟨w.heap.size + 1 + 1 + 1, 0, none⟩), .pointer (some ⟨w.heap.size + 1 + 1 + 1 + 1, 0, none⟩), .int .u32 V, .int .u32 U, .int .i64 (a : Int), .agg #[.slice none 0 0, .int .i64 (-1), .int .i64 (a : Int), .bool false, .bool false, .int .i64 0], .pointer (some ⟨w.heap.size + 1, 3, none⟩), .int .i64 (tn : Int), .pointer (some ⟨w.heap.size, 0, none⟩), .pointer (some ⟨w.heap.size, tn, none⟩), .int .u32 V, .pointer (some ⟨w.heap.size + 1, 4, none⟩), .int .i64 (un : Int), .pointer (some ⟨w.heap.size, 0, none⟩), .pointer (some ⟨w.heap.size, un, none⟩), .int .u32 U, .pointer (some ⟨w.heap.size + 1, 0, none⟩), .int .i64 21, .bool false, .bool false, undef, undef, undef, undef, undef, undef, undef, undef, undef, undef, undef, undef, undef, .bool false, .bool false, undef, undef, undef, undef, undef, undef, undef, undef, undef, undef, undef, .bool false, .bool false, undef, undef, undef, undef, undef, undef, undef, undef, undef, undef, undef, undef, undef, undef, undef, .bool false, .bool false, undef, undef, undef, undef, undef, undef, undef, undef, undef, undef, undef, undef, undef, undef, undef, undef, undef, undef, undef, undef, undef, undef, .bool false, .bool false, undef, undef, undef, undef, undef, undef, undef, undef, undef, undef, undef, undef, undef, undef, undef, undef, .bool true, .bool true, vs 13, vs 0, vs 1, vs 2, vs 3, vs 4, vs 5, vs 6, vs 7, vs 8, vs 9, vs 10, vs 11, vs 12, vs 14, vs 15, vs 17, undef, undef, undef, undef, undef, undef, undef, undef], defers := [] }) (valT [.agg #[.int .u32 r0, .int .u32 r1, .int .u32 r2, .int .u32 r3, .int .u32 r4, .int .u32 r5, .int .u32 r6, .int .u32 r7, .int .i64 pc], .agg #[.int .i64 21, .int .i64 (dn : Int), .int .i64 s, .int .i64 (tn : Int), .int .i64 (un : Int), .int .i64 a', .int .u32 k', .int .i64 pl], .pointer (some ⟨X.x, 0, none⟩), .pointer (some ⟨X.x, 0, none⟩), .pointer (some ⟨X.x, 3, none⟩), .pointer (some ⟨X.p, 0, none⟩), .pointer (some ⟨X.p, 0, none⟩), .pointer (some ⟨X.p, 0, none⟩), .pointer (some ⟨X.q, 0, none⟩), .int .i64 (a : Int), .int .u32 (nth m.ws a), .bool late, .tuple #[.agg #[.int .u32 s0, .int .u32 s1, .int .u32 s2, .int .u32 s3, .int .u32 s4, .int .u32 s5, .int .u32 s6, .int .u32 s7, .int .i64 PC], .bool ST], .tuple #[.agg #[.int .u32 s0, .int .u32 s1, .int .u32 s2, .int .u32 s3, .int .u32 s4, .int .u32 s5, .int .u32 s6, .int .u32 s7, .int .i64 PC], .bool ST], .agg #[.int .u32 s0, .int .u32 s1, .int .u32 s2, .int .u32 s3, .int .u32 s4, .int .u32 s5, .int .u32 s6, .int .u32 s7, .int .i64 PC], .bool ST, undef, .pointer (some ⟨w.heap.size + 1 + 1 + 1 + 1, 4, none⟩), undef]) ?ghm ?ghr ?ghc ?ghnd ?ghlit ?gh0 ?ghW ?ghF ?ghS ?gops ?gdone
      case ghm => kernel_rfl
      case ghr => kernel_rfl
      case ghc => kernel_rfl
      case ghnd => decide
      case ghlit => intro vs; rfl
      case gh0 => exact hS0
      case ghW => exact fun k W W2 h hb => accW_below h hb
      case ghF => exact valT_stable
      case ghS => exact fun k W W2 _ _ i v h => h
      case gops =>
        refine ⟨?_, ?_, ?_, ?_, ?_, ?_, ?_, ?_, ?_, ?_, ?_, ?_, ?_, ?_, ?_, ?_, ?_, ?_, ?_, trivial⟩
        · intro vs W k h1 h2 hW hd
          obtain rfl : k = 0 := Nat.le_zero.1 h2
          refine leaves_free rfl ?_
          obtain ⟨j1, j2, j3, x3, -⟩ : AccS w [r0, r1, r2, r3, r4, r5, r6, r7] pc ⟨21, dn, s, tn, un, a', k', pl⟩ ⟨[], -1, a, false, false, 0⟩ X.p X.q X.g X.s k.zs m.ws X.x W := id hW; obtain ⟨c0, c1, c2, c3, c4, c5, c6, c7, c8⟩ := j1.c.cells; obtain ⟨e0, e1, e2, e3, e4, e5, e6, e7⟩ := j1.i.cells; simp only at e0 e1 e2 e3 e4 e5 e6 e7; have p0 := j2.c0; have zf := Bk.free j1.c; clear j1 j2 j3
          clear hd
          go_simp
          exact ⟨rfl, Below.refl _ _⟩
        · intro vs W k h1 h2 hW hd
          obtain rfl : k = 0 := Nat.le_zero.1 h2
          refine leaves_free rfl ?_
          obtain ⟨j1, j2, j3, x3, -⟩ : AccS w [r0, r1, r2, r3, r4, r5, r6, r7] pc ⟨21, dn, s, tn, un, a', k', pl⟩ ⟨[], -1, a, false, false, 0⟩ X.p X.q X.g X.s k.zs m.ws X.x W := id hW; obtain ⟨c0, c1, c2, c3, c4, c5, c6, c7, c8⟩ := j1.c.cells; obtain ⟨e0, e1, e2, e3, e4, e5, e6, e7⟩ := j1.i.cells; simp only at e0 e1 e2 e3 e4 e5 e6 e7; have p0 := j2.c0; have zf := Bk.free j1.c; clear j1 j2 j3
          clear hd
          go_simp
          exact ⟨rfl, Below.refl _ _⟩
        · intro vs W k h1 h2 hW hd
          obtain rfl : k = 0 := Nat.le_zero.1 h2
          refine leaves_free rfl ?_
          clear hd
          go_simp
          exact ⟨rfl, Below.refl _ _⟩
        · intro vs W k h1 h2 hW hd
          obtain rfl : k = 0 := Nat.le_zero.1 h2
          refine leaves_free rfl ?_
          have e2 : vs 2 = .pointer (some ⟨X.x, 0, none⟩) := hd 2 (by decide)
          clear hd
          go_simp
          exact ⟨rfl, Below.refl _ _⟩
        · intro vs W k h1 h2 hW hd
          obtain rfl : k = 0 := Nat.le_zero.1 h2
          refine leaves_free rfl ?_
          have e3 : vs 3 = .pointer (some ⟨X.x, 0, none⟩) := hd 3 (by decide)
          clear hd
          go_simp
          exact ⟨rfl, Below.refl _ _⟩
        · intro vs W k h1 h2 hW hd
          obtain rfl : k = 0 := Nat.le_zero.1 h2
          refine leaves_free rfl ?_
          have e4 : vs 4 = .pointer (some ⟨X.x, 3, none⟩) := hd 4 (by decide)
          obtain ⟨j1, j2, j3, x3, -⟩ : AccS w [r0, r1, r2, r3, r4, r5, r6, r7] pc ⟨21, dn, s, tn, un, a', k', pl⟩ ⟨[], -1, a, false, false, 0⟩ X.p X.q X.g X.s k.zs m.ws X.x W := id hW; obtain ⟨c0, c1, c2, c3, c4, c5, c6, c7, c8⟩ := j1.c.cells; obtain ⟨e0, e1, e2, e3, e4, e5, e6, e7⟩ := j1.i.cells; simp only at e0 e1 e2 e3 e4 e5 e6 e7; have p0 := j2.c0; have zf := Bk.free j1.c; clear j1 j2 j3
          clear hd
          go_simp
          exact ⟨rfl, Below.refl _ _⟩
        · intro vs W k h1 h2 hW hd
          obtain rfl : k = 0 := Nat.le_zero.1 h2
          refine leaves_free rfl ?_
          have e5 : vs 5 = .pointer (some ⟨X.p, 0, none⟩) := hd 5 (by decide)
          clear hd
          go_simp
          exact ⟨rfl, Below.refl _ _⟩
        · intro vs W k h1 h2 hW hd
          obtain rfl : k = 0 := Nat.le_zero.1 h2
          refine leaves_free rfl ?_
          have e6 : vs 6 = .pointer (some ⟨X.p, 0, none⟩) := hd 6 (by decide)
          clear hd
          go_simp
          exact ⟨rfl, Below.refl _ _⟩
        · intro vs W k h1 h2 hW hd
          obtain rfl : k = 0 := Nat.le_zero.1 h2
          refine leaves_free rfl ?_
          have e7 : vs 7 = .pointer (some ⟨X.p, 0, none⟩) := hd 7 (by decide)
          obtain ⟨j1, j2, j3, x3, -⟩ : AccS w [r0, r1, r2, r3, r4, r5, r6, r7] pc ⟨21, dn, s, tn, un, a', k', pl⟩ ⟨[], -1, a, false, false, 0⟩ X.p X.q X.g X.s k.zs m.ws X.x W := id hW; obtain ⟨c0, c1, c2, c3, c4, c5, c6, c7, c8⟩ := j1.c.cells; obtain ⟨e0, e1, e2, e3, e4, e5, e6, e7⟩ := j1.i.cells; simp only at e0 e1 e2 e3 e4 e5 e6 e7; have p0 := j2.c0; have zf := Bk.free j1.c; clear j1 j2 j3
          clear hd
          go_simp
          exact ⟨rfl, Below.refl _ _⟩
        · intro vs W k h1 h2 hW hd
          obtain rfl : k = 0 := Nat.le_zero.1 h2
          refine leaves_free rfl ?_
          clear hd
          go_simp
          exact ⟨rfl, Below.refl _ _⟩
        · intro vs W k h1 h2 hW hd
          obtain rfl : k = 0 := Nat.le_zero.1 h2
          refine leaves_free rfl ?_
          have e8 : vs 8 = .pointer (some ⟨X.q, 0, none⟩) := hd 8 (by decide)
          have e9 : vs 9 = .int .i64 (a : Int) := hd 9 (by decide)
          clear hd
          go_simp
          refine (hLd.out _ (AccS.am hW)).mono ?_
          rintro e z ⟨rfl, rfl⟩
          exact ⟨_, rfl, rfl, Below.refl _ _⟩
        · intro vs W k h1 h2 hW hd
          obtain rfl : k = 0 := Nat.le_zero.1 h2
          refine leaves_free rfl ?_
          clear hd
          go_simp
          exact ⟨rfl, Below.refl _ _⟩
        · intro vs W k h1 h2 hW hd
          obtain rfl : k = 0 := Nat.le_zero.1 h2
          refine leaves_free rfl ?_
          have e0 : vs 0 = .agg #[.int .u32 r0, .int .u32 r1, .int .u32 r2, .int .u32 r3, .int .u32 r4, .int .u32 r5, .int .u32 r6, .int .u32 r7, .int .i64 pc] := hd 0 (by decide)
          have e1 : vs 1 = .agg #[.int .i64 21, .int .i64 (dn : Int), .int .i64 s, .int .i64 (tn : Int), .int .i64 (un : Int), .int .i64 a', .int .u32 k', .int .i64 pl] := hd 1 (by decide)
          have e10 : vs 10 = .int .u32 (nth m.ws a) := hd 10 (by decide)
          have e11 : vs 11 = .bool late := hd 11 (by decide)
          clear hd
          go_simp
          refine (HAW2.out _).mono ?_
          rintro e z ⟨rfl, hz⟩
          exact ⟨_, rfl, rfl, hz⟩
        · intro vs W k h1 h2 hW hd
          obtain rfl : k = 0 := Nat.le_zero.1 h2
          refine leaves_free rfl ?_
          have e12 : vs 12 = .tuple #[.agg #[.int .u32 s0, .int .u32 s1, .int .u32 s2, .int .u32 s3, .int .u32 s4, .int .u32 s5, .int .u32 s6, .int .u32 s7, .int .i64 PC], .bool ST] := hd 12 (by decide)
          clear hd
          go_simp
          exact ⟨rfl, Below.refl _ _⟩
        · intro vs W k h1 h2 hW hd
          obtain rfl : k = 0 := Nat.le_zero.1 h2
          refine leaves_free rfl ?_
          have e13 : vs 13 = .tuple #[.agg #[.int .u32 s0, .int .u32 s1, .int .u32 s2, .int .u32 s3, .int .u32 s4, .int .u32 s5, .int .u32 s6, .int .u32 s7, .int .i64 PC], .bool ST] := hd 13 (by decide)
          clear hd
          go_simp
          exact ⟨rfl, Below.refl _ _⟩
        · intro vs W k h1 h2 hW hd
          refine leaves_free rfl ?_
          have e13 : vs 13 = .tuple #[.agg #[.int .u32 s0, .int .u32 s1, .int .u32 s2, .int .u32 s3, .int .u32 s4, .int .u32 s5, .int .u32 s6, .int .u32 s7, .int .i64 PC], .bool ST] := hd 13 (by decide)
          clear hd
          go_simp
          exact ⟨rfl, Below.refl _ _⟩
        · intro vs W hW hd
          have e14 : vs 14 = .agg #[.int .u32 s0, .int .u32 s1, .int .u32 s2, .int .u32 s3, .int .u32 s4, .int .u32 s5, .int .u32 s6, .int .u32 s7, .int .i64 PC] := hd 14 (by decide)
          obtain ⟨j1, j2, j3, x3, -⟩ : AccS w [r0, r1, r2, r3, r4, r5, r6, r7] pc ⟨21, dn, s, tn, un, a', k', pl⟩ ⟨[], -1, a, false, false, 0⟩ X.p X.q X.g X.s k.zs m.ws X.x W := id hW; obtain ⟨c0, c1, c2, c3, c4, c5, c6, c7, c8⟩ := j1.c.cells; obtain ⟨e0, e1, e2, e3, e4, e5, e6, e7⟩ := j1.i.cells; simp only at e0 e1 e2 e3 e4 e5 e6 e7; have p0 := j2.c0; have zf := Bk.free j1.c; clear j1 j2 j3
          refine leavesIf_free rfl ?_
          clear hd
          go_simp
          exact ⟨rfl, accS_core hAh hW⟩
        · intro vs W k h1 h2 hW hd
          refine leaves_free rfl ?_
          clear hd
          go_simp
          exact ⟨rfl, Below.refl _ _⟩
        · intro vs W hW hd
          have e15 : vs 15 = .bool ST := hd 15 (by decide)
          have e17 : vs 17 = .pointer (some ⟨w.heap.size + 1 + 1 + 1 + 1, 4, none⟩) := hd 17 (by decide)
          obtain ⟨j1, j2, j3, x3, -⟩ : AccS w [s0, s1, s2, s3, s4, s5, s6, s7] PC ⟨21, dn, s, tn, un, a', k', pl⟩ ⟨[], -1, a, false, false, 0⟩ X.p X.q X.g X.s k.zs m.ws X.x W := id hW; obtain ⟨o0, o1, o2, o3, o4, o5⟩ := j1.cells; simp only at o0 o1 o2 o3 o4 o5; have zf := Bk.free j1.o; clear j1 j2 j3
          refine leavesIf_free rfl ?_
          clear hd
          go_simp
          exact ⟨rfl, accS_stay hAh hW ST⟩
      case gdone =>
        intro vs W hW hf
        obtain ⟨j1, j2, j3, -, -⟩ : AccS w [s0, s1, s2, s3, s4, s5, s6, s7] PC ⟨21, dn, s, tn, un, a', k', pl⟩ ⟨[], -1, a, false, ST, 0⟩ X.p X.q X.g X.s k.zs m.ws X.x W := id hW
        clear hW hS0
        have f0 : vs 0 = .agg #[.int .u32 r0, .int .u32 r1, .int .u32 r2, .int .u32 r3, .int .u32 r4, .int .u32 r5, .int .u32 r6, .int .u32 r7, .int .i64 pc] := hf 0 (by decide)
        have f1 : vs 1 = .agg #[.int .i64 21, .int .i64 (dn : Int), .int .i64 s, .int .i64 (tn : Int), .int .i64 (un : Int), .int .i64 a', .int .u32 k', .int .i64 pl] := hf 1 (by decide)
        have f2 : vs 2 = .pointer (some ⟨X.x, 0, none⟩) := hf 2 (by decide)
        have f3 : vs 3 = .pointer (some ⟨X.x, 0, none⟩) := hf 3 (by decide)
        have f4 : vs 4 = .pointer (some ⟨X.x, 3, none⟩) := hf 4 (by decide)
        have f5 : vs 5 = .pointer (some ⟨X.p, 0, none⟩) := hf 5 (by decide)
        have f6 : vs 6 = .pointer (some ⟨X.p, 0, none⟩) := hf 6 (by decide)
        have f7 : vs 7 = .pointer (some ⟨X.p, 0, none⟩) := hf 7 (by decide)
        have f8 : vs 8 = .pointer (some ⟨X.q, 0, none⟩) := hf 8 (by decide)
        have f9 : vs 9 = .int .i64 (a : Int) := hf 9 (by decide)
        have f10 : vs 10 = .int .u32 (nth m.ws a) := hf 10 (by decide)
        have f11 : vs 11 = .bool late := hf 11 (by decide)
        have f12 : vs 12 = .tuple #[.agg #[.int .u32 s0, .int .u32 s1, .int .u32 s2, .int .u32 s3, .int .u32 s4, .int .u32 s5, .int .u32 s6, .int .u32 s7, .int .i64 PC], .bool ST] := hf 12 (by decide)
        have f13 : vs 13 = .tuple #[.agg #[.int .u32 s0, .int .u32 s1, .int .u32 s2, .int .u32 s3, .int .u32 s4, .int .u32 s5, .int .u32 s6, .int .u32 s7, .int .i64 PC], .bool ST] := hf 13 (by decide)
        have f14 : vs 14 = .agg #[.int .u32 s0, .int .u32 s1, .int .u32 s2, .int .u32 s3, .int .u32 s4, .int .u32 s5, .int .u32 s6, .int .u32 s7, .int .i64 PC] := hf 14 (by decide)
        have f15 : vs 15 = .bool ST := hf 15 (by decide)
        have f17 : vs 17 = .pointer (some ⟨w.heap.size + 1 + 1 + 1 + 1, 4, none⟩) := hf 17 (by decide)
        simp only [f0, f1, f2, f3, f4, f5, f6, f7, f8, f9, f10, f11, f12, f13, f14, f15, f17]
        clear f0 f1 f2 f3 f4 f5 f6 f7 f8 f9 f10 f11 f12 f13 f14 f15 f17 hf
        obtain ⟨c0, c1, c2, c3, c4, c5, c6, c7, c8⟩ := j1.c.cells
        obtain ⟨o0, o1, o2, o3, o4, o5⟩ := j1.cells
        obtain ⟨z0, z1, z2, z3, z4, z5, z6, z7, z8⟩ := j1.r.cells
        obtain ⟨x0, x1, x2, x3, x4, x5⟩ : W.cell? ⟨w.heap.size + 1 + 1 + 1, 0, none⟩ = some (.slice none 0 0) ∧ W.cell? ⟨w.heap.size + 1 + 1 + 1, 1, none⟩ = some (.int .i64 0) ∧ W.cell? ⟨w.heap.size + 1 + 1 + 1, 2, none⟩ = some (.int .i64 0) ∧ W.cell? ⟨w.heap.size + 1 + 1 + 1, 3, none⟩ = some (.bool false) ∧ W.cell? ⟨w.heap.size + 1 + 1 + 1, 4, none⟩ = some (.bool false) ∧ W.cell? ⟨w.heap.size + 1 + 1 + 1, 5, none⟩ = some (.int .i64 0) := ⟨j1.e.cell 0, j1.e.cell 1, j1.e.cell 2, j1.e.cell 3, j1.e.cell 4, j1.e.cell 5⟩
        have zf1 := Bk.free j1.r
        have zf2 := Bk.free j1.e
        simp only at o0 o1 o2 o3 o4 o5
        obtain ⟨f1, f2, f3, f4⟩ := acc_end (s0 := s0) (s1 := s1) (s2 := s2) (s3 := s3) (s4 := s4) (s5 := s5) (s6 := s6) (s7 := s7) (PC := PC) (v0 := .slice none 0 0) (v1 := .int .i64 (-1)) (v2 := .int .i64 a) (v3 := .bool false) (v4 := .bool ST) (v5 := .int .i64 0) j1 j2 j3 hAh
        go_upto_region 22 with fail
        go_region
        generalize hv9 : ((((((((((((((((((W.setCell ⟨(w.heap.size + 1 + 1), 0, none⟩ (.int .u32 s0)).setCell ⟨(w.heap.size + 1 + 1), 1, none⟩ (.int .u32 s1)).setCell ⟨(w.heap.size + 1 + 1), 2, none⟩ (.int .u32 s2)).setCell ⟨(w.heap.size + 1 + 1), 3, none⟩ (.int .u32 s3)).setCell ⟨(w.heap.size + 1 + 1), 4, none⟩ (.int .u32 s4)).setCell ⟨(w.heap.size + 1 + 1), 5, none⟩ (.int .u32 s5)).setCell ⟨(w.heap.size + 1 + 1), 6, none⟩ (.int .u32 s6)).setCell ⟨(w.heap.size + 1 + 1), 7, none⟩ (.int .u32 s7)).setCell ⟨(w.heap.size + 1 + 1), 8, none⟩ (.int .i64 PC))).setCell ⟨(w.heap.size + 1 + 1 + 1), 0, none⟩ ((.slice none 0 0))).setCell ⟨(w.heap.size + 1 + 1 + 1), 1, none⟩ (.int .i64 (-1))).setCell ⟨(w.heap.size + 1 + 1 + 1), 2, none⟩ (.int .i64 a)).setCell ⟨(w.heap.size + 1 + 1 + 1), 3, none⟩ (.bool false)).setCell ⟨(w.heap.size + 1 + 1 + 1), 4, none⟩ (.bool ST)).setCell ⟨(w.heap.size + 1 + 1 + 1), 5, none⟩ (.int .i64 0))).drew) = v9
        replace hv9 : (put6 (put9 W (w.heap.size + 1 + 1) (.int .u32 s0) (.int .u32 s1) (.int .u32 s2) (.int .u32 s3) (.int .u32 s4) (.int .u32 s5) (.int .u32 s6) (.int .u32 s7) (.int .i64 PC)) (w.heap.size + 1 + 1 + 1) (.slice none 0 0) (.int .i64 (-1)) (.int .i64 a) (.bool false) (.bool ST) (.int .i64 0)).drew = v9 := hv9
        rw [hv9] at f1 f2 f3 f4
        clear hv9 j1 j2 j3 c0 c1 c2 c3 c4 c5 c6 c7 c8 o0 o1 o2 o3 o4 o5 z0 z1 z2 z3 z4 z5 z6 z7 z8 zf1 zf2 x0 x1 x2 x3 x4 x5
        obtain ⟨c0, c1, c2, c3, c4, c5, c6, c7, c8⟩ := f1.cells
        obtain ⟨o0, o1, o2, o3, o4, o5⟩ : v9.cell? ⟨w.heap.size + 1 + 1 + 1, 0, none⟩ = some (.slice none 0 0) ∧ v9.cell? ⟨w.heap.size + 1 + 1 + 1, 1, none⟩ = some (.int .i64 (-1)) ∧ v9.cell? ⟨w.heap.size + 1 + 1 + 1, 2, none⟩ = some (.int .i64 a) ∧ v9.cell? ⟨w.heap.size + 1 + 1 + 1, 3, none⟩ = some (.bool false) ∧ v9.cell? ⟨w.heap.size + 1 + 1 + 1, 4, none⟩ = some (.bool ST) ∧ v9.cell? ⟨w.heap.size + 1 + 1 + 1, 5, none⟩ = some (.int .i64 0) := ⟨f2.cell 0, f2.cell 1, f2.cell 2, f2.cell 3, f2.cell 4, f2.cell 5⟩
        go_wp
        exact bodyPost_ret (v := .tuple #[.agg #[.int .u32 s0, .int .u32 s1, .int .u32 s2, .int .u32 s3, .int .u32 s4, .int .u32 s5, .int .u32 s6, .int .u32 s7, .int .i64 PC], .agg #[(.slice none 0 0), .int .i64 (-1), .int .i64 a, .bool false, .bool ST, .int .i64 0]]) (by simp [results, Tryz.results55, go_sem, c0, c1, c2, c3, c4, c5, c6, c7, c8, o0, o1, o2, o3, o4, o5]) rfl ⟨by rw [HA2.out]; rfl, by rw [HA2.out]; exact f3, f4⟩
  case rest =>
    obtain ⟨rfl, xs', wr, h8, hI', hM', hG', hAA⟩ := hcut
    clear hI hM hG x3 p0 e0 e1 e2 e3 e4 e5 e6 e7 hLd HA HAW EV EU kx kp
    obtain ⟨s0, s1, s2, s3, s4, s5, s6, s7, rfl⟩ := eight_cons h8
    obtain ⟨c0, c1, c2, c3, c4, c5, c6, c7, c8⟩ := hI'.c.cells
    have zf := Bk.free hI'.c
    replace hw1 := hw1.out
    go_upto_region 24 with fail
    obtain ⟨g1, g2⟩ := acc_put hI' hM' hG' hAh (Nat.le_refl _) 8 (.int .i64 (pc + 1))
    have g3 : AccI w (wc.setCell ⟨w.heap.size, 8, none⟩ (.int .i64 (pc + 1))) w.heap.size [s0, s1, s2, s3, s4, s5, s6, s7] (pc + 1) ⟨op, dn, s, tn, un, a', k', pl⟩ ⟨[], -1, a, wr, false, 0⟩ :=
      ⟨Bk.put hI'.c 8 (.int .i64 (pc + 1)), Bk.off hI'.i (p := ⟨w.heap.size, 8, none⟩) (by show w.heap.size + 1 ≠ w.heap.size; omega) _, Bk.off hI'.r (p := ⟨w.heap.size, 8, none⟩) (by show w.heap.size + 1 + 1 ≠ w.heap.size; omega) _, Bk.off hI'.e (p := ⟨w.heap.size, 8, none⟩) (by show w.heap.size + 1 + 1 + 1 ≠ w.heap.size; omega) _, Bk.off hI'.o (p := ⟨w.heap.size, 8, none⟩) (by show w.heap.size + 1 + 1 + 1 + 1 ≠ w.heap.size; omega) _⟩
    clear hI' hM' hG' c0 c1 c2 c3 c4 c5 c6 c7 c8 zf hw1
    generalize wc.setCell ⟨w.heap.size, 8, none⟩ (.int .i64 (pc + 1)) = y2 at *
    obtain ⟨c0, c1, c2, c3, c4, c5, c6, c7, c8⟩ := g3.c.cells
    obtain ⟨o0, o1, o2, o3, o4, o5⟩ := g3.cells
    obtain ⟨z0, z1, z2, z3, z4, z5, z6, z7, z8⟩ := g3.r.cells
    obtain ⟨x0, x1, x2, x3, x4, x5⟩ : y2.cell? ⟨w.heap.size + 1 + 1 + 1, 0, none⟩ = some (.slice none 0 0) ∧ y2.cell? ⟨w.heap.size + 1 + 1 + 1, 1, none⟩ = some (.int .i64 0) ∧ y2.cell? ⟨w.heap.size + 1 + 1 + 1, 2, none⟩ = some (.int .i64 0) ∧ y2.cell? ⟨w.heap.size + 1 + 1 + 1, 3, none⟩ = some (.bool false) ∧ y2.cell? ⟨w.heap.size + 1 + 1 + 1, 4, none⟩ = some (.bool false) ∧ y2.cell? ⟨w.heap.size + 1 + 1 + 1, 5, none⟩ = some (.int .i64 0) := ⟨g3.e.cell 0, g3.e.cell 1, g3.e.cell 2, g3.e.cell 3, g3.e.cell 4, g3.e.cell 5⟩
    have zf1 := Bk.free g3.r
    have zf2 := Bk.free g3.e
    simp only at o0 o1 o2 o3 o4 o5
    obtain ⟨f1, f2, f3, f4⟩ := acc_end (s0 := s0) (s1 := s1) (s2 := s2) (s3 := s3) (s4 := s4) (s5 := s5) (s6 := s6) (s7 := s7) (PC := pc + 1) (v0 := .slice none 0 0) (v1 := .int .i64 (-1)) (v2 := .int .i64 a) (v3 := .bool wr) (v4 := .bool false) (v5 := .int .i64 0) g3 g1 g2 hAh
    go_region
    generalize hv9 : ((((((((((((((((((y2.setCell ⟨(w.heap.size + 1 + 1), 0, none⟩ (.int .u32 s0)).setCell ⟨(w.heap.size + 1 + 1), 1, none⟩ (.int .u32 s1)).setCell ⟨(w.heap.size + 1 + 1), 2, none⟩ (.int .u32 s2)).setCell ⟨(w.heap.size + 1 + 1), 3, none⟩ (.int .u32 s3)).setCell ⟨(w.heap.size + 1 + 1), 4, none⟩ (.int .u32 s4)).setCell ⟨(w.heap.size + 1 + 1), 5, none⟩ (.int .u32 s5)).setCell ⟨(w.heap.size + 1 + 1), 6, none⟩ (.int .u32 s6)).setCell ⟨(w.heap.size + 1 + 1), 7, none⟩ (.int .u32 s7)).setCell ⟨(w.heap.size + 1 + 1), 8, none⟩ (.int .i64 (pc + 1)))).setCell ⟨(w.heap.size + 1 + 1 + 1), 0, none⟩ ((.slice none 0 0))).setCell ⟨(w.heap.size + 1 + 1 + 1), 1, none⟩ (.int .i64 (-1))).setCell ⟨(w.heap.size + 1 + 1 + 1), 2, none⟩ (.int .i64 a)).setCell ⟨(w.heap.size + 1 + 1 + 1), 3, none⟩ (.bool wr)).setCell ⟨(w.heap.size + 1 + 1 + 1), 4, none⟩ (.bool false)).setCell ⟨(w.heap.size + 1 + 1 + 1), 5, none⟩ (.int .i64 0))).drew) = v9
    replace hv9 : (put6 (put9 y2 (w.heap.size + 1 + 1) (.int .u32 s0) (.int .u32 s1) (.int .u32 s2) (.int .u32 s3) (.int .u32 s4) (.int .u32 s5) (.int .u32 s6) (.int .u32 s7) (.int .i64 (pc + 1))) (w.heap.size + 1 + 1 + 1) (.slice none 0 0) (.int .i64 (-1)) (.int .i64 a) (.bool wr) (.bool false) (.int .i64 0)).drew = v9 := hv9
    rw [hv9] at f1 f2 f3 f4
    clear hv9 g1 g2 g3 c0 c1 c2 c3 c4 c5 c6 c7 c8 o0 o1 o2 o3 o4 o5 z0 z1 z2 z3 z4 z5 z6 z7 z8 zf1 zf2
    obtain ⟨c0, c1, c2, c3, c4, c5, c6, c7, c8⟩ := f1.cells
    obtain ⟨o0, o1, o2, o3, o4, o5⟩ : v9.cell? ⟨w.heap.size + 1 + 1 + 1, 0, none⟩ = some (.slice none 0 0) ∧ v9.cell? ⟨w.heap.size + 1 + 1 + 1, 1, none⟩ = some (.int .i64 (-1)) ∧ v9.cell? ⟨w.heap.size + 1 + 1 + 1, 2, none⟩ = some (.int .i64 a) ∧ v9.cell? ⟨w.heap.size + 1 + 1 + 1, 3, none⟩ = some (.bool wr) ∧ v9.cell? ⟨w.heap.size + 1 + 1 + 1, 4, none⟩ = some (.bool false) ∧ v9.cell? ⟨w.heap.size + 1 + 1 + 1, 5, none⟩ = some (.int .i64 0) := ⟨f2.cell 0, f2.cell 1, f2.cell 2, f2.cell 3, f2.cell 4, f2.cell 5⟩
    go_wp
    exact bodyPost_ret (v := .tuple #[.agg #[.int .u32 s0, .int .u32 s1, .int .u32 s2, .int .u32 s3, .int .u32 s4, .int .u32 s5, .int .u32 s6, .int .u32 s7, .int .i64 (pc + 1)], .agg #[(.slice none 0 0), .int .i64 (-1), .int .i64 a, .bool wr, .bool false, .int .i64 0]]) (by simp [results, Tryz.results55, go_sem, c0, c1, c2, c3, c4, c5, c6, c7, c8, o0, o1, o2, o3, o4, o5]) rfl ⟨by rw [hAA.out.1, hAA.out.2.1, hAA.out.2.2]; rfl, f3, f4⟩
end
end Go.Proofs.YtpinpipjlongaaaGreat
