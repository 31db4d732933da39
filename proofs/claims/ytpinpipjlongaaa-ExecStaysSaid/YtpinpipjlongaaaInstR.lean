/- The document's instructions: Ref, Name, reg. -/
import Derived.Test.YtpinpipjlongaaaInstB
import Derived.Deep.WholeRow
import Derived.Laws.Tables
namespace Go.Proofs.Ytpinpipjlongaaa
open Go.ChangeShapes Go.WideShapes Go.ChangeAt Go.RowKit
set_option linter.unusedVariables false

theorem run_eqJ (i j : Ins) (w : World) : (binOp .eql 87 (iv i) (iv j)).run Try.prog w = .ok (.bool (eqI i j)) w := by
  unfold iv
  have hu := Try.underlying87
  go_simp
  unfold eqI
  repeat' split
  all_goals simp [*]

/-- Block g is the instruction i. -/
def Jb (w : World) (g : Nat) (i : Ins) : Prop := Bk w g 87 #[.int .i64 i.op, .int .i64 i.d, .int .i64 i.s, .int .i64 i.t, .int .i64 i.u, .int .i64 i.a, .int .u32 i.k, .int .i64 i.pl]
theorem Jb.cells {w : World} {g : Nat} {i : Ins} (h : Jb w g i) :
    w.cell? ⟨g, 0, none⟩ = some (.int .i64 i.op) ∧ w.cell? ⟨g, 1, none⟩ = some (.int .i64 i.d) ∧ w.cell? ⟨g, 2, none⟩ = some (.int .i64 i.s) ∧ w.cell? ⟨g, 3, none⟩ = some (.int .i64 i.t) ∧
    w.cell? ⟨g, 4, none⟩ = some (.int .i64 i.u) ∧ w.cell? ⟨g, 5, none⟩ = some (.int .i64 i.a) ∧ w.cell? ⟨g, 6, none⟩ = some (.int .u32 i.k) ∧ w.cell? ⟨g, 7, none⟩ = some (.int .i64 i.pl) :=
  ⟨Bk.cell h 0, Bk.cell h 1, Bk.cell h 2, Bk.cell h 3, Bk.cell h 4, Bk.cell h 5, Bk.cell h 6, Bk.cell h 7⟩
theorem Jb.below {w w' : World} {g : Nat} {i : Ins} (h : Jb w g i) (hb : Below w.heap.size w w') : Jb w' g i := (hb.block g (Bk.lt h)).trans h

theorem Jb.grw {w : World} {b : Nat} {i : Ins} (h : Jb w b i) :
    (∀ g : Grw w, g.x.cell? ⟨b, 0, none⟩ = some (.int .i64 i.op)) ∧ (∀ g : Grw w, g.x.cell? ⟨b, 1, none⟩ = some (.int .i64 i.d)) ∧ (∀ g : Grw w, g.x.cell? ⟨b, 2, none⟩ = some (.int .i64 i.s)) ∧ (∀ g : Grw w, g.x.cell? ⟨b, 3, none⟩ = some (.int .i64 i.t)) ∧
    (∀ g : Grw w, g.x.cell? ⟨b, 4, none⟩ = some (.int .i64 i.u)) ∧ (∀ g : Grw w, g.x.cell? ⟨b, 5, none⟩ = some (.int .i64 i.a)) ∧ (∀ g : Grw w, g.x.cell? ⟨b, 6, none⟩ = some (.int .u32 i.k)) ∧ (∀ g : Grw w, g.x.cell? ⟨b, 7, none⟩ = some (.int .i64 i.pl)) := by
  obtain ⟨c0, c1, c2, c3, c4, c5, c6, c7⟩ := h.cells
  exact ⟨fun g => g.cell c0, fun g => g.cell c1, fun g => g.cell c2, fun g => g.cell c3, fun g => g.cell c4, fun g => g.cell c5, fun g => g.cell c6, fun g => g.cell c7⟩

theorem Jb.made (w : World) (op d s t u a k pl : Int) : Jb (w.alloc (.cells #[.int .i64 op, .int .i64 d, .int .i64 s, .int .i64 t, .int .i64 u, .int .i64 a, .int .u32 k, .int .i64 pl] 87)) w.heap.size ⟨op, d, s, t, u, a, k, pl⟩ := Bk.made _ _ _
theorem boxedJ {w x : World} {op d s t u a k pl : Int} (h : Below (w.alloc (.cells #[.int .i64 op, .int .i64 d, .int .i64 s, .int .i64 t, .int .i64 u, .int .i64 a, .int .u32 k, .int .i64 pl] 87)).heap.size (w.alloc (.cells #[.int .i64 op, .int .i64 d, .int .i64 s, .int .i64 t, .int .i64 u, .int .i64 a, .int .u32 k, .int .i64 pl] 87)) x) : Jb x w.heap.size ⟨op, d, s, t, u, a, k, pl⟩ ∧ Below w.heap.size w x :=
  ⟨(Jb.made w op d s t u a k pl).below h, ((Below.refl _ _).alloc (Nat.le_refl _) _).trans (h.mono (by simp))⟩


theorem put8_jb {y : World} {g : Nat} {i j : Ins} (h : Jb y g j) : Jb (put8 y g i) g i := by
  have h8 := (((((((Bk.put h 0 (.int .i64 i.op)).put 1 (.int .i64 i.d)).put 2 (.int .i64 i.s)).put 3 (.int .i64 i.t)).put 4 (.int .i64 i.u)).put 5 (.int .i64 i.a)).put 6 (.int .u32 i.k)).put 7 (.int .i64 i.pl)
  unfold put8 Jb
  simpa only [List.setIfInBounds_toArray, List.set_cons_zero, List.set_cons_succ] using h8

theorem rRef (i : Ins) (w : World) :
    Calls Try.prog 28 #[iv i] w fun e w' => e = .returned (iv i) ∧ Below w.heap.size w w' := by
  obtain ⟨op, d, s, t, u, a, k, pl⟩ := i
  unfold iv
  go_enter Try.func28, Try.ntmps28
  go_wp2
  refine bodyPost_ret (v := .agg #[.int .i64 op, .int .i64 d, .int .i64 s, .int .i64 t, .int .i64 u, .int .i64 a, .int .u32 k, .int .i64 pl]) (by simp [results, Try.results28, go_sem]) rfl ⟨rfl, ?_⟩
  exact ((Below.refl _ _).alloc (Nat.le_refl _) _).alloc (by simp) _

theorem rRegYes (n : Int) (h0 : 0 ≤ n) (h1 : n ≤ 7) (w : World) : Calls Try.prog 46 #[.int .i64 n] w fun e w' => e = .returned (.bool true) ∧ w = w' := by
  go_enter Try.func46, Try.ntmps46
  go_wp2
  go_ret
  exact ⟨rfl, rfl⟩
theorem rRegNo (n : Int) (h : n < 0 ∨ 7 < n) (w : World) : Calls Try.prog 46 #[.int .i64 n] w fun e w' => e = .returned (.bool false) ∧ w = w' := by
  rcases h with h | h
  · have h2 : decide (n ≥ 0) = false := by simp; omega
    go_enter Try.func46, Try.ntmps46
    go_wp2
    go_ret
    exact ⟨rfl, rfl⟩
  · have h2 : decide (n ≤ 7) = false := by simp; omega
    have h3 : 0 ≤ n := by omega
    go_enter Try.func46, Try.ntmps46
    go_wp2
    go_ret
    exact ⟨rfl, rfl⟩


/-- The names, as the document lays them. -/
def namesA : Array Value := #[.string ⟨#[]⟩, .string ⟨#[99, 111, 110, 115, 116]⟩, .string ⟨#[109, 111, 118, 101]⟩, .string ⟨#[97, 100, 100, 107]⟩, .string ⟨#[97, 110, 100, 107]⟩, .string ⟨#[115, 104, 108]⟩, .string ⟨#[115, 104, 114]⟩, .string ⟨#[111, 114]⟩, .string ⟨#[98, 101, 113]⟩, .string ⟨#[98, 110, 101]⟩, .string ⟨#[106, 117, 109, 112]⟩, .string ⟨#[115, 101, 108, 102]⟩, .string ⟨#[109, 97, 114, 107]⟩, .string ⟨#[100, 111, 110, 101]⟩, .string ⟨#[]⟩, .string ⟨#[]⟩, .string ⟨#[108, 111, 97, 100]⟩, .string ⟨#[115, 116, 111, 114, 101]⟩, .string ⟨#[115, 119, 97, 112]⟩, .string ⟨#[99, 97, 115]⟩, .string ⟨#[102, 97, 100, 100]⟩, .string ⟨#[97, 119, 97, 105, 116]⟩, .string ⟨#[116, 97, 107, 101]⟩, .string ⟨#[102, 114, 101, 101]⟩]
theorem namesA_at : ∀ n : Nat, 1 ≤ n → n ≤ 23 → namesA[n]? = some (.string ⟨(nmL n).toArray⟩) := by
  intro n h1 h2
  have hn : n = 1 ∨ n = 2 ∨ n = 3 ∨ n = 4 ∨ n = 5 ∨ n = 6 ∨ n = 7 ∨ n = 8 ∨ n = 9 ∨ n = 10 ∨ n = 11 ∨ n = 12 ∨ n = 13 ∨ n = 14 ∨ n = 15 ∨ n = 16 ∨ n = 17 ∨ n = 18 ∨ n = 19 ∨ n = 20 ∨ n = 21 ∨ n = 22 ∨ n = 23 := by omega
  rcases hn with rfl | rfl | rfl | rfl | rfl | rfl | rfl | rfl | rfl | rfl | rfl | rfl | rfl | rfl | rfl | rfl | rfl | rfl | rfl | rfl | rfl | rfl | rfl <;> rfl

section
variable {P : Program} {ops : Array Oper} {rest : List Oper} {o : Oper} {a : Act} {w : World} {Q : Exit → Act → World → Prop}
theorem wpList_build_to (hg : o.guard = none) (t : TypeId) (parts : Array (Nat × Operand)) (ho : o.op = .build t parts) (cs : Array Value)
    (hf : P.built t (parts.map fun (i, x) => (i, a.eval x)).toList = some cs) (h : wpList P ops Q rest (a.put o.dst (.agg cs)) w) : wpList P ops Q (o :: rest) a w :=
  wpList_build hg t parts ho (by rw [hf]; rfl) (by rw [hf]; exact h)
theorem wpList_store_new (hgd : o.guard = none) (ty : TypeId) (x y : Operand) (ho : o.op = .store ty x y) (old cells : Array Value) (hx : a.eval x = .pointer (some ⟨w.heap.size, 0, none⟩)) (hy : a.eval y = .agg cells)
    (hi : (P.info? ty).map (·.size) = some cells.size) (hold : old.size = cells.size) (h1 : cells.all (·.oneCell') = true)
    (h : wpList P ops Q rest (a.put o.dst undef) (w.alloc (.cells cells ty))) : wpList P ops Q (o :: rest) a (w.alloc (.cells old ty)) :=
  wpList_store_row hgd ty x y ho w.heap.size cells hx hy ty old (heap_alloc_new w _) hi hold h1 (by rw [World.setRow_alloc_new]; exact h)
end

set_option maxRecDepth 100000 in
theorem rName (op : Int) (w : World) : Calls Try.prog 45 #[.int .i64 op] w fun e w' => e = .returned (bs (nmL op)) ∧ Below w.heap.size w w' := by
  by_cases h : op < 1 ∨ 23 < op
  · have E := Lib.hid (show nmL op = [] from (hs_none (by omega)).2)
    generalize nmL op = nm at *
    rcases h with h | h
    · go_enter Try.func45, Try.ntmps45
      go_wp2_with (first | (refine wpList_build_to rfl 148 _ rfl namesA (by kernel_rfl) ?_) | (refine wpList_store_new rfl 148 _ _ rfl _ namesA rfl rfl (by kernel_rfl) (by kernel_rfl) (by kernel_rfl) ?_))
      go_ret
      exact ⟨by rw [E.out]; rfl, (Below.refl _ _).alloc (Nat.le_refl _) _⟩
    · have h2 : decide (op < 1) = false := by simp; omega
      go_enter Try.func45, Try.ntmps45
      go_wp2_with (first | (refine wpList_build_to rfl 148 _ rfl namesA (by kernel_rfl) ?_) | (refine wpList_store_new rfl 148 _ _ rfl _ namesA rfl rfl (by kernel_rfl) (by kernel_rfl) (by kernel_rfl) ?_))
      go_ret
      exact ⟨by rw [E.out]; rfl, (Below.refl _ _).alloc (Nat.le_refl _) _⟩
  · obtain ⟨n, hn⟩ : ∃ n : Nat, op = n := ⟨op.toNat, by omega⟩
    subst hn
    have h1 : 1 ≤ n := by omega
    have h23 : n ≤ 23 := by omega
    have hc : (w.alloc (.cells namesA 148)).cell? ⟨w.heap.size, n, none⟩ = some (.string ⟨(nmL n).toArray⟩) := by
      rw [cell_of_row _ _ _ _ _ _ (heap_alloc_new w _)]
      exact namesA_at n h1 h23
    generalize nmL n = nm at *
    have d1 : decide ((n : Int) < 1) = false := by simp; omega
    have d2 : decide ((n : Int) > 23) = false := by simp; omega
    have d3 : (n : Int) < 24 := by omega
    clear h
    go_enter Try.func45, Try.ntmps45
    go_wp2_with (first | (refine wpList_build_to rfl 148 _ rfl namesA (by kernel_rfl) ?_) | (refine wpList_store_new rfl 148 _ _ rfl _ namesA rfl rfl (by kernel_rfl) (by kernel_rfl) (by kernel_rfl) ?_))
    go_ret
    exact ⟨rfl, (Below.refl _ _).alloc (Nat.le_refl _) _⟩

/-- Each register, and the area, is one. -/
structure Regs (i : Ins) : Prop where
  d : 0 ≤ i.d ∧ i.d ≤ 7
  s : 0 ≤ i.s ∧ i.s ≤ 7
  t : 0 ≤ i.t ∧ i.t ≤ 7
  u : 0 ≤ i.u ∧ i.u ≤ 7
  a : 0 ≤ i.a ∧ i.a ≤ 7
end Go.Proofs.Ytpinpipjlongaaa
