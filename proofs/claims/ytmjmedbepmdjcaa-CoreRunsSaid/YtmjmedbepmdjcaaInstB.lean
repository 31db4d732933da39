/- inst.Right. -/
import Derived.Test.YtmjmedbepmdjcaaInstA
import Derived.Test.YtmjmedbepmdjcaaGrow
import Derived.Deep.RegionLaw
namespace Go.Proofs.Ytmjmedbepmdjcaa
open Go.ChangeShapes Go.WideShapes Go.ChangeAt Go.RowKit
set_option linter.unusedVariables false

theorem run_eqI (i j : Ins) (w : World) : (binOp .eql 27 (iv i) (iv j)).run Try.prog w = .ok (.bool (eqI i j)) w := by
  unfold iv
  have hu := Try.underlying27
  go_simp
  unfold eqI
  repeat' split
  all_goals simp [*]

/-- Block g is the instruction i. -/
def Ib (w : World) (g : Nat) (i : Ins) : Prop := Bk w g 27 #[.int .i64 i.op, .int .i64 i.d, .int .i64 i.s, .int .i64 i.t, .int .i64 i.u, .int .i64 i.a, .int .u32 i.k, .int .i64 i.pl]
theorem Ib.cells {w : World} {g : Nat} {i : Ins} (h : Ib w g i) :
    w.cell? ⟨g, 0, none⟩ = some (.int .i64 i.op) ∧ w.cell? ⟨g, 1, none⟩ = some (.int .i64 i.d) ∧ w.cell? ⟨g, 2, none⟩ = some (.int .i64 i.s) ∧ w.cell? ⟨g, 3, none⟩ = some (.int .i64 i.t) ∧
    w.cell? ⟨g, 4, none⟩ = some (.int .i64 i.u) ∧ w.cell? ⟨g, 5, none⟩ = some (.int .i64 i.a) ∧ w.cell? ⟨g, 6, none⟩ = some (.int .u32 i.k) ∧ w.cell? ⟨g, 7, none⟩ = some (.int .i64 i.pl) :=
  ⟨Bk.cell h 0, Bk.cell h 1, Bk.cell h 2, Bk.cell h 3, Bk.cell h 4, Bk.cell h 5, Bk.cell h 6, Bk.cell h 7⟩
theorem Ib.below {w w' : World} {g : Nat} {i : Ins} (h : Ib w g i) (hb : Below w.heap.size w w') : Ib w' g i := (hb.block g (Bk.lt h)).trans h

theorem Ib.grw {w : World} {b : Nat} {i : Ins} (h : Ib w b i) :
    (∀ g : Grw w, g.x.cell? ⟨b, 0, none⟩ = some (.int .i64 i.op)) ∧ (∀ g : Grw w, g.x.cell? ⟨b, 1, none⟩ = some (.int .i64 i.d)) ∧ (∀ g : Grw w, g.x.cell? ⟨b, 2, none⟩ = some (.int .i64 i.s)) ∧ (∀ g : Grw w, g.x.cell? ⟨b, 3, none⟩ = some (.int .i64 i.t)) ∧
    (∀ g : Grw w, g.x.cell? ⟨b, 4, none⟩ = some (.int .i64 i.u)) ∧ (∀ g : Grw w, g.x.cell? ⟨b, 5, none⟩ = some (.int .i64 i.a)) ∧ (∀ g : Grw w, g.x.cell? ⟨b, 6, none⟩ = some (.int .u32 i.k)) ∧ (∀ g : Grw w, g.x.cell? ⟨b, 7, none⟩ = some (.int .i64 i.pl)) := by
  obtain ⟨c0, c1, c2, c3, c4, c5, c6, c7⟩ := h.cells
  exact ⟨fun g => g.cell c0, fun g => g.cell c1, fun g => g.cell c2, fun g => g.cell c3, fun g => g.cell c4, fun g => g.cell c5, fun g => g.cell c6, fun g => g.cell c7⟩

theorem Ib.made (w : World) (op d s t u a k pl : Int) : Ib (w.alloc (.cells #[.int .i64 op, .int .i64 d, .int .i64 s, .int .i64 t, .int .i64 u, .int .i64 a, .int .u32 k, .int .i64 pl] 27)) w.heap.size ⟨op, d, s, t, u, a, k, pl⟩ := Bk.made _ _ _
theorem boxed {w x : World} {op d s t u a k pl : Int} (h : Below (w.alloc (.cells #[.int .i64 op, .int .i64 d, .int .i64 s, .int .i64 t, .int .i64 u, .int .i64 a, .int .u32 k, .int .i64 pl] 27)).heap.size (w.alloc (.cells #[.int .i64 op, .int .i64 d, .int .i64 s, .int .i64 t, .int .i64 u, .int .i64 a, .int .u32 k, .int .i64 pl] 27)) x) : Ib x w.heap.size ⟨op, d, s, t, u, a, k, pl⟩ ∧ Below w.heap.size w x :=
  ⟨(Ib.made w op d s t u a k pl).below h, ((Below.refl _ _).alloc (Nat.le_refl _) _).trans (h.mono (by simp))⟩

/-- Block g is stored into, field by field. -/
def put8 (y : World) (g : Nat) (i : Ins) : World := ((((((((y.setCell ⟨g, 0, none⟩ (.int .i64 i.op)).setCell ⟨g, 1, none⟩ (.int .i64 i.d)).setCell ⟨g, 2, none⟩ (.int .i64 i.s)).setCell ⟨g, 3, none⟩ (.int .i64 i.t)).setCell ⟨g, 4, none⟩ (.int .i64 i.u)).setCell ⟨g, 5, none⟩ (.int .i64 i.a)).setCell ⟨g, 6, none⟩ (.int .u32 i.k)).setCell ⟨g, 7, none⟩ (.int .i64 i.pl))
theorem put8_ib {y : World} {g : Nat} {i j : Ins} (h : Ib y g j) : Ib (put8 y g i) g i := by
  have h8 := (((((((Bk.put h 0 (.int .i64 i.op)).put 1 (.int .i64 i.d)).put 2 (.int .i64 i.s)).put 3 (.int .i64 i.t)).put 4 (.int .i64 i.u)).put 5 (.int .i64 i.a)).put 6 (.int .u32 i.k)).put 7 (.int .i64 i.pl)
  unfold put8 Ib
  simpa only [List.setIfInBounds_toArray, List.set_cons_zero, List.set_cons_succ] using h8
theorem put8_off {y : World} {g b : Nat} {i : Ins} {t : TypeId} {cs : Array Value} (h : Bk y b t cs) (hne : b ≠ g) : Bk (put8 y g i) b t cs :=
  (((((((h.off hne _).off hne _).off hne _).off hne _).off hne _).off hne _).off hne _).off hne _
theorem put8_below {B : Nat} {w y : World} {g : Nat} {i : Ins} (h : Below B w y) (hg : B ≤ g) : Below B w (put8 y g i) :=
  (((((((h.setCell hg _).setCell hg _).setCell hg _).setCell hg _).setCell hg _).setCell hg _).setCell hg _).setCell hg _

/-- A letter of what an Op has. -/
def ltrAt (op : Int) (n : Nat) : Int := ((hsL op).getD n 0).toNat

theorem clr_snoc (i : Ins) (l : List UInt8) (n : Nat) (h : n < l.length) : clr i (l.take (n + 1)) = setI (clr i (l.take n)) (l.getD n 0).toNat 0 := by
  unfold clr
  rw [List.take_succ_eq_append_getElem h, List.foldl_append]
  simp [h]

theorem clr_k (i : Ins) (l : List UInt8) (k0 : 0 ≤ i.k) (k1 : i.k < 4294967296) : 0 ≤ (clr i l).k ∧ (clr i l).k < 4294967296 := by
  have key : ∀ (l : List UInt8) (j : Ins), 0 ≤ j.k → j.k < 4294967296 → 0 ≤ (l.foldl (fun x c => setI x c.toNat 0) j).k ∧ (l.foldl (fun x c => setI x c.toNat 0) j).k < 4294967296 := by
    intro l
    induction l with
    | nil => intro j h0 h1; exact ⟨h0, h1⟩
    | cons c l ih =>
      intro j h0 h1
      refine ih _ ?_ ?_
      all_goals
        unfold setI
        simp only [apply_ite Ins.k]
        repeat' split
        all_goals omega
  exact key l _ k0 k1

theorem run_ltr (hs : List UInt8) (n : Nat) (h : n < hs.length) (w : World) : (Instr.index 9 (.string ⟨hs.toArray⟩) (.int .i64 n)).run Try.prog w = .ok (.int .u8 ((hs.getD n 0).toNat : Int)) w := by
  have hu := Try.underlying9
  have h2 : (n : Int) < (hs.length : Int) := by omega
  go_simp
  rfl

theorem all_snoc (f : UInt8 → Bool) (l : List UInt8) (n : Nat) (h : n < l.length) : (l.take (n + 1)).all f = ((l.take n).all f && f (l.getD n 0)) := by
  rw [List.take_succ_eq_append_getElem h, List.all_append]
  simp [h]
theorem all_no (f : UInt8 → Bool) (l : List UInt8) (n : Nat) (h : n < l.length) (hf : f (l.getD n 0) = false) : l.all f = false := by
  rw [Bool.eq_false_iff]
  intro ha
  have := List.all_eq_true.1 ha (l.getD n 0) (by simp [h])
  rw [hf] at this
  cases this

/-- The world at the head of a round of Right. -/
structure RightAt (w : World) (i : Ins) (hs : List UInt8) (p : Int) (n : Nat) (x : World) : Prop where
  below : Below w.heap.size w x
  box : Ib x w.heap.size i
  left : Ib x (w.heap.size + 1) (clr i (hs.take n))
  ok : (hs.take n).all (fun c => inB i p c.toNat) = true

end Go.Proofs.Ytmjmedbepmdjcaa
