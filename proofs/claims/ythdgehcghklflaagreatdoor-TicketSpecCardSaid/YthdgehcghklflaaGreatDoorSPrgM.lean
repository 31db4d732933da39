/- PrgM, InstB, InstR, TkT, Prg, RefP, Same, AsmK, SpM, RuI, RuJ. -/
import Derived.Test.YthdgehcghklflaaGreatDoorSMem
import Derived.Test.YthdgehcghklflaaGreatDoorSInstA
import Derived.Test.YthdgehcghklflaaGreatDoorSFlow
import Derived.Deep.RegionLaw
import Derived.Deep.WholeRow
import Derived.Laws.Tables
import Derived.Deep.RegionHeld3
import Derived.Deep.Cut
import Derived.Deep.QuietTactic
import Derived.BigQuiet
import Derived.ProofKit
import Derived.OpenShut
import Derived.Deep.Fields
import Derived.Deep.Slices
import Derived.ChangeSame
import Derived.Lib.SmallJoins
import Derived.Test.YthdgehcghklflaaGreatDoorTie
import Derived.Test.YthdgehcghklflaaGreatDoorCards
import Derived.Lay
import Derived.Handed
import Derived.PinnedBridge
import Derived.SevenTiedAt
import Derived.Shelf.Vars
import Derived.Lib.LaidTab
import Derived.Stop.LaidErr
import Derived.Deep.Onto
/- Programs: a list of instructions and two places; their cells. -/
namespace Go.Proofs.YthdgehcghklflaaGreatDoor
open Go.ChangeShapes Go.WideShapes Go.ChangeAt Go.RowKit
set_option linter.unusedVariables false

/-- A program. -/
structure Prg where
  l : List Ins
  lo : Int
  un : Int
def Prg.zero : Prg := ⟨[], 0, 0⟩

/-- May a program be? -/
def prgB (c : Prg) : Bool := decide (1 ≤ c.l.length) && (decide (c.l.length ≤ 64) && (decide (0 ≤ c.lo) && (decide (0 ≤ c.un) && (decide (c.lo < c.l.length) && (decide (c.un < c.l.length) && c.l.all fun i => rightB i c.l.length)))))

/-- An instruction's cells; a program's. -/
def insC (i : Ins) : List Value := [.int .i64 i.op, .int .i64 i.d, .int .i64 i.s, .int .i64 i.t, .int .i64 i.u, .int .i64 i.a, .int .u32 i.k, .int .i64 i.pl]
theorem insC_len (i : Ins) : (insC i).length = 8 := rfl
def progC (l : List Ins) : List Value := l.flatMap insC
theorem progC_snoc (l : List Ins) (i : Ins) : progC (l ++ [i]) = progC l ++ insC i := by simp [progC]
theorem insC_one (i : Ins) : ∀ u ∈ insC i, u.oneCell' = true := by
  intro u hu
  simp only [insC, List.mem_cons, List.not_mem_nil, or_false] at hu
  rcases hu with rfl | rfl | rfl | rfl | rfl | rfl | rfl | rfl <;> rfl
theorem insInfo : (Tryz.prog.info? 119).map (fun i => (i.zero, i.size, i.bytes)) = some (some (.agg #[.int .i64 0, .int .i64 0, .int .i64 0, .int .i64 0, .int .i64 0, .int .i64 0, .int .u32 0, .int .i64 0]), 8, 64) := by kernel_rfl

/-- Element k of lists laid one behind the other, each as long. -/
theorem flat_at {α : Type} (f : α → List Value) (n : Nat) (hf : ∀ x, (f x).length = n) : ∀ (l : List α) (k j : Nat) (x : α), l[k]? = some x → j < n → (l.flatMap f)[k * n + j]? = (f x)[j]?
  | [], k, j, x, h, _ => by simp at h
  | y :: l, 0, j, x, h, hj => by
    simp at h
    subst h
    simp [List.getElem?_append, hf, hj]
  | y :: l, k + 1, j, x, h, hj => by
    have ih := flat_at f n hf l k j x (by simpa using h) hj
    rw [← ih]
    have e : (k + 1) * n + j = n + (k * n + j) := by rw [Nat.add_mul]; omega
    rw [e, List.flatMap_cons, List.getElem?_append_right (by rw [hf]; omega), hf]
    congr 1
    omega
theorem progC_at {l : List Ins} {k : Nat} {i : Ins} (h : l[k]? = some i) {j : Nat} (hj : j < 8) : (progC l)[k * 8 + j]? = (insC i)[j]? := flat_at insC 8 insC_len l k j i h hj

/-- The value v is a program; its instructions lie in a row of their own, at base or beyond. -/
def Pg (w : World) (base : Nat) (v : Value) (c : Prg) : Prop := ∃ sl, v = .agg #[sl, .int .i64 c.lo, .int .i64 c.un] ∧ w.ownsRow base 119 8 sl c.l.length (progC c.l)
end Go.Proofs.YthdgehcghklflaaGreatDoor

/- inst.Right. -/
namespace Go.Proofs.YthdgehcghklflaaGreatDoor
open Go.ChangeShapes Go.WideShapes Go.ChangeAt Go.RowKit
set_option linter.unusedVariables false

theorem run_eqI (i j : Ins) (w : World) : (binOp .eql 119 (iv i) (iv j)).run Tryz.prog w = .ok (.bool (eqI i j)) w := by
  unfold iv
  have hu := Tryz.underlying119
  go_simp
  unfold eqI
  repeat' split
  all_goals simp [*]

/-- Block g is the instruction i. -/
def Ib (w : World) (g : Nat) (i : Ins) : Prop := Bk w g 119 #[.int .i64 i.op, .int .i64 i.d, .int .i64 i.s, .int .i64 i.t, .int .i64 i.u, .int .i64 i.a, .int .u32 i.k, .int .i64 i.pl]
theorem Ib.cells {w : World} {g : Nat} {i : Ins} (h : Ib w g i) :
    w.cell? ⟨g, 0, none⟩ = some (.int .i64 i.op) ∧ w.cell? ⟨g, 1, none⟩ = some (.int .i64 i.d) ∧ w.cell? ⟨g, 2, none⟩ = some (.int .i64 i.s) ∧ w.cell? ⟨g, 3, none⟩ = some (.int .i64 i.t) ∧
    w.cell? ⟨g, 4, none⟩ = some (.int .i64 i.u) ∧ w.cell? ⟨g, 5, none⟩ = some (.int .i64 i.a) ∧ w.cell? ⟨g, 6, none⟩ = some (.int .u32 i.k) ∧ w.cell? ⟨g, 7, none⟩ = some (.int .i64 i.pl) :=
  ⟨Bk.cell h 0, Bk.cell h 1, Bk.cell h 2, Bk.cell h 3, Bk.cell h 4, Bk.cell h 5, Bk.cell h 6, Bk.cell h 7⟩
theorem Ib.below {w w' : World} {g : Nat} {i : Ins} (h : Ib w g i) (hb : Below w.heap.size w w') : Ib w' g i := (hb.block g (Bk.lt h)).trans h

theorem Ib.grw {w : World} {b : Nat} {i : Ins} (h : Ib w b i) :
    (∀ g : Grw w, g.x.cell? ⟨b, 0, none⟩ = some (.int .i64 i.op)) ∧ (∀ g : Grw w, g.x.cell? ⟨b, 1, none⟩ = some (.int .i64 i.d)) ∧ (∀ g : Grw w, g.x.cell? ⟨b, 2, none⟩ = some (.int .i64 i.s)) ∧ (∀ g : Grw w, g.x.cell? ⟨b, 3, none⟩ = some (.int .i64 i.t)) ∧
    (∀ g : Grw w, g.x.cell? ⟨b, 4, none⟩ = some (.int .i64 i.u)) ∧ (∀ g : Grw w, g.x.cell? ⟨b, 5, none⟩ = some (.int .i64 i.a)) ∧ (∀ g : Grw w, g.x.cell? ⟨b, 6, none⟩ = some (.int .u32 i.k)) ∧ (∀ g : Grw w, g.x.cell? ⟨b, 7, none⟩ = some (.int .i64 i.pl)) := by
  obtain ⟨c0, c1, c2, c3, c4, c5, c6, c7⟩ := h.cells
  exact ⟨fun g => g.cell c0, fun g => g.cell c1, fun g => g.cell c2, fun g => g.cell c3, fun g => g.cell c4, fun g => g.cell c5, fun g => g.cell c6, fun g => g.cell c7⟩

theorem Ib.made (w : World) (op d s t u a k pl : Int) : Ib (w.alloc (.cells #[.int .i64 op, .int .i64 d, .int .i64 s, .int .i64 t, .int .i64 u, .int .i64 a, .int .u32 k, .int .i64 pl] 119)) w.heap.size ⟨op, d, s, t, u, a, k, pl⟩ := Bk.made _ _ _
theorem boxed {w x : World} {op d s t u a k pl : Int} (h : Below (w.alloc (.cells #[.int .i64 op, .int .i64 d, .int .i64 s, .int .i64 t, .int .i64 u, .int .i64 a, .int .u32 k, .int .i64 pl] 119)).heap.size (w.alloc (.cells #[.int .i64 op, .int .i64 d, .int .i64 s, .int .i64 t, .int .i64 u, .int .i64 a, .int .u32 k, .int .i64 pl] 119)) x) : Ib x w.heap.size ⟨op, d, s, t, u, a, k, pl⟩ ∧ Below w.heap.size w x :=
  ⟨(Ib.made w op d s t u a k pl).below h, ((Below.refl _ _).alloc (Nat.le_refl _) _).trans (h.mono (by simp))⟩

/-- Block g is stored into, field by field. -/
def put8 (y : World) (g : Nat) (i : Ins) : World := ((((((((y.setCell ⟨g, 0, none⟩ (.int .i64 i.op)).setCell ⟨g, 1, none⟩ (.int .i64 i.d)).setCell ⟨g, 2, none⟩ (.int .i64 i.s)).setCell ⟨g, 3, none⟩ (.int .i64 i.t)).setCell ⟨g, 4, none⟩ (.int .i64 i.u)).setCell ⟨g, 5, none⟩ (.int .i64 i.a)).setCell ⟨g, 6, none⟩ (.int .u32 i.k)).setCell ⟨g, 7, none⟩ (.int .i64 i.pl))
theorem put8_ib {y : World} {g : Nat} {i j : Ins} (h : Ib y g j) : Ib (put8 y g i) g i := by
  have h8 := (((((((Bk.put h 0 (.int .i64 i.op)).put 1 (.int .i64 i.d)).put 2 (.int .i64 i.s)).put 3 (.int .i64 i.t)).put 4 (.int .i64 i.u)).put 5 (.int .i64 i.a)).put 6 (.int .u32 i.k)).put 7 (.int .i64 i.pl)
  unfold put8 Ib
  simpa only [List.setIfInBounds_toArray, List.set_cons_zero, List.set_cons_succ] using h8
theorem put8_off {y : World} {g b : Nat} {i : Ins} {t : TypeId} {cs : Array Value} (h : Bk y b t cs) (hne : b ≠ g) : Bk (put8 y g i) b t cs :=
  (((((((h.off hne _).off hne _).off hne _).off hne _).off hne _).off hne _).off hne _).off hne _
theorem put8_below {B : Nat} {w y : World} {g : Nat} {i : Ins} (h : Below B w y) (hg : B ≤ g) : Below B w (put8 y g i) :=
  (((((((h.setCell hg _).setCell hg _).setCell hg _).setCell hg _).setCell hg _).setCell hg _).setCell hg _).setCell hg _

theorem clr_snoc (i : Ins) (l : List UInt8) (n : Nat) (h : n < l.length) : clr i (l.take (n + 1)) = setI (clr i (l.take n)) (l.getD n 0).toNat 0 := by
  unfold clr
  rw [List.take_succ_eq_append_getElem h, List.foldl_append]
  simp [h]

theorem all_snoc (f : UInt8 → Bool) (l : List UInt8) (n : Nat) (h : n < l.length) : (l.take (n + 1)).all f = ((l.take n).all f && f (l.getD n 0)) := by
  rw [List.take_succ_eq_append_getElem h, List.all_append]
  simp [h]
theorem all_no (f : UInt8 → Bool) (l : List UInt8) (n : Nat) (h : n < l.length) (hf : f (l.getD n 0) = false) : l.all f = false := by
  rw [Bool.eq_false_iff]
  intro ha
  have := List.all_eq_true.1 ha (l.getD n 0) (by simp [h])
  rw [hf] at this
  cases this

/-- The world at the head of a round of Right. -/
structure RightAt (w : World) (i : Ins) (hs : List UInt8) (p : Int) (n : Nat) (x : World) : Prop where
  below : Below w.heap.size w x
  box : Ib x w.heap.size i
  left : Ib x (w.heap.size + 1) (clr i (hs.take n))
  ok : (hs.take n).all (fun c => inB i p c.toNat) = true

set_option maxHeartbeats 1000000 in
theorem cRight (i : Ins) (p : Int) (k0 : 0 ≤ i.k) (k1 : i.k < 4294967296) (w : World) :
    Calls Tryz.prog 70 #[iv i, .int .i64 p] w fun e w' => e = .returned (.bool (rightB i p)) ∧ Below w.heap.size w w' := by
  have hL := hs_ltr i.op
  have h6 := hs_len i.op
  have ER : rightB i p = (!(hsL i.op).isEmpty && ((hsL i.op).all (fun c => inB i p c.toNat) && isZ (clr i (hsL i.op)))) := rfl
  have H0 := Lib.hid (cForm i.op)
  generalize hsL i.op = hs at hL h6 ER H0
  have HL := Lib.hid hL
  have HR := Lib.hid ER
  clear hL ER
  obtain ⟨op, d, s, t, u, a, k, pl⟩ := i
  simp only at k0 k1 H0
  unfold iv
  go_enter Tryz.func70, Tryz.ntmps70
  go_wp2_with fail
  refine (H0.out _).mono ?_
  rintro e w' ⟨rfl, rfl⟩
  unfold bs
  by_cases he : hs = []
  · subst he
    go_wp2
    go_ret
    exact ⟨ret_bool HR.out.symm, (Below.refl _ _).alloc (Nat.le_refl _) _⟩
  have hne : hs.isEmpty = false := by simpa using he
  go_wp2
  go_loopw [24] (fun v x => ∃ n : Nat, n ≤ hs.length ∧ v = .int .i64 n ∧ RightAt w ⟨op, d, s, t, u, a, k, pl⟩ hs p n x) (fun v _ => hs.length - (intOf v).toNat)
  case atStart => 
    refine ⟨0, Nat.zero_le _, rfl, ?_, ?_, ?_, rfl⟩
    · exact (((Below.refl _ _).alloc (Nat.le_refl _) _).alloc (by simp) _)
    · exact (Bk.made _ _ _).alloc _
    · have := Bk.made (w.alloc (.cells #[.int .i64 op, .int .i64 d, .int .i64 s, .int .i64 t, .int .i64 u, .int .i64 a, .int .u32 k, .int .i64 pl] 119)) 119 #[.int .i64 0, .int .i64 d, .int .i64 s, .int .i64 t, .int .i64 u, .int .i64 a, .int .u32 k, .int .i64 pl]
      rw [show (w.alloc (.cells #[.int .i64 op, .int .i64 d, .int .i64 s, .int .i64 t, .int .i64 u, .int .i64 a, .int .u32 k, .int .i64 pl] 119)).heap.size = w.heap.size + 1 by simp] at this
      exact this
  case round =>
    obtain ⟨n, hn, rfl, R⟩ := hrel
    obtain ⟨hb, hI, hZ, hok⟩ := R
    generalize wr = x at *
    have hlt1 : w.heap.size < x.heap.size := Bk.lt hI
    have hlt2 : w.heap.size + 1 < x.heap.size := Bk.lt hZ
    by_cases hlt : n < hs.length
    · have hidx := run_ltr hs n hlt
      have hc : Ltr ((hs.getD n 0).toNat : Int) := HL.out _ (by simp [hlt])
      generalize hcc : ((hs.getD n 0).toNat : Int) = c at hidx hc
      obtain ⟨g0, -⟩ := hI.grw
      have HC := Lib.hid hcc
      clear hcc
      go_wp2_with fail
      refine wp_region_grow (by kernel_rfl) (by kernel_rfl) ?_
      repeat (go_big_quiet_step ((go_at_call 110; exact grw_same (cBounds _ _ _ hc _))))
      refine wpQuiet_nil ?_
      rintro y ⟨⟨_, hy⟩, rfl⟩
      replace hb := hb.trans (hy.mono (Nat.le_of_lt hlt1))
      replace hI := hI.below hy
      replace hZ := hZ.below hy
      replace hlt1 : w.heap.size < y.heap.size := Bk.lt hI
      replace hlt2 : w.heap.size + 1 < y.heap.size := Bk.lt hZ
      clear g0 hy x
      obtain ⟨g0, g1, g2, g3, g4, g5, g6, g7⟩ := hI.grw
      simp only at g0 g1 g2 g3 g4 g5 g6 g7
      go_wp2_with fail
      refine wp_region_grow (by kernel_rfl) (by kernel_rfl) ?_
      repeat (go_big_quiet_step ((go_at_call 111; exact grw_call (cGet ⟨op, d, s, t, u, a, k, pl⟩ _ hc k0 k1 _))))
      refine wpQuiet_nil ?_
      rintro x ⟨⟨_, hx⟩, rfl⟩
      replace hb := hb.trans (hx.mono (Nat.le_of_lt hlt1))
      replace hI := hI.below hx
      replace hZ := hZ.below hx
      replace hlt1 : w.heap.size < x.heap.size := Bk.lt hI
      replace hlt2 : w.heap.size + 1 < x.heap.size := Bk.lt hZ
      clear g0 g1 g2 g3 g4 g5 g6 g7 hx y
      by_cases hlo : getI ⟨op, d, s, t, u, a, k, pl⟩ c < lowI op c
      · go_wp2
        go_ret
        refine ⟨ret_bool ?_, hb⟩
        rw [HR.out, all_no _ _ n hlt (by rw [HC.out]; simp [inB]; intro h; omega)]; simp
      have hlo' : decide (getI ⟨op, d, s, t, u, a, k, pl⟩ c < lowI op c) = false := by simpa using hlo
      by_cases hhi : endI op c p ≤ getI ⟨op, d, s, t, u, a, k, pl⟩ c
      · go_wp2
        go_ret
        refine ⟨ret_bool ?_, hb⟩
        rw [HR.out, all_no _ _ n hlt (by rw [HC.out]; simp [inB]; intro h; omega)]; simp
      have hhi' : decide (getI ⟨op, d, s, t, u, a, k, pl⟩ c ≥ endI op c p) = false := by simpa using hhi
      generalize hZZ : clr ⟨op, d, s, t, u, a, k, pl⟩ (hs.take n) = z at hZ
      have HZ := Lib.hid hZZ
      clear hZZ
      obtain ⟨zop, zd, zs, zt, zu, za, zk, zpl⟩ := z
      obtain ⟨c0, c1, c2, c3, c4, c5, c6, c7⟩ := hZ.cells
      simp only at c0 c1 c2 c3 c4 c5 c6 c7
      go_wp2_with fail
      go_region_law (first | (go_simp; go_at_call 112; refine (cSet ⟨zop, zd, zs, zt, zu, za, zk, zpl⟩ _ 0 hc _).mono ?_; rintro e y ⟨rfl, hy⟩; replace hy := below_of_drew hy; obtain ⟨d0, d1, d2, d3, d4, d5, d6, d7⟩ := (hZ.below hy).cells; have hf := Bk.free (hZ.below hy); generalize hz2 : setI ⟨zop, zd, zs, zt, zu, za, zk, zpl⟩ c 0 = z2; have HZ2 := Lib.hid hz2; clear hz2; obtain ⟨yop, yd, ys, yt, yu, ya, yk, ypl⟩ := z2; unfold iv))
      all_goals
        generalize hv : ((((((((y.setCell ⟨w.heap.size + 1, 0, none⟩ (.int .i64 yop)).setCell ⟨w.heap.size + 1, 1, none⟩ (.int .i64 yd)).setCell ⟨w.heap.size + 1, 2, none⟩ (.int .i64 ys)).setCell ⟨w.heap.size + 1, 3, none⟩ (.int .i64 yt)).setCell ⟨w.heap.size + 1, 4, none⟩ (.int .i64 yu)).setCell ⟨w.heap.size + 1, 5, none⟩ (.int .i64 ya)).setCell ⟨w.heap.size + 1, 6, none⟩ (.int .u32 yk)).setCell ⟨w.heap.size + 1, 7, none⟩ (.int .i64 ypl)) = v
        have hv2 : put8 y (w.heap.size + 1) ⟨yop, yd, ys, yt, yu, ya, yk, ypl⟩ = v := hv
        clear hv
        have hA := put8_ib (i := ⟨yop, yd, ys, yt, yu, ya, yk, ypl⟩) (hZ.below hy)
        have hB := put8_off (i := ⟨yop, yd, ys, yt, yu, ya, yk, ypl⟩) (hI.below hy) (show w.heap.size ≠ w.heap.size + 1 by omega)
        have hC := put8_below (i := ⟨yop, yd, ys, yt, yu, ya, yk, ypl⟩) (hb.trans (hy.mono (Nat.le_of_lt hlt1))) (show w.heap.size ≤ w.heap.size + 1 by omega)
        rw [hv2] at hA hB hC
        clear hv2 d0 d1 d2 d3 d4 d5 d6 d7 hf c0 c1 c2 c3 c4 c5 c6 c7 hidx
        have hn1 : (n : Int) + 1 ≤ 6 := by omega
        go_wp2
        go_roundw
        case rel =>
          refine ⟨n + 1, by omega, by go_num, hC, hB, ?_, ?_⟩
          · rw [clr_snoc _ _ _ hlt, HZ.out, HC.out, HZ2.out]; exact hA
          · rw [all_snoc _ _ _ hlt, HC.out, hok]; simp [inB]; omega
        case measure => simp [intOf]; omega
    · obtain rfl : n = hs.length := by omega
      generalize hZZ : clr ⟨op, d, s, t, u, a, k, pl⟩ (hs.take hs.length) = z at hZ
      obtain ⟨zop, zd, zs, zt, zu, za, zk, zpl⟩ := z
      obtain ⟨c0, c1, c2, c3, c4, c5, c6, c7⟩ := hZ.cells
      simp only at c0 c1 c2 c3 c4 c5 c6 c7
      rw [List.take_length] at hZZ hok
      have HZ := Lib.hid hZZ
      have HO := Lib.hid hok
      clear hZZ hok
      have hq := run_eqI ⟨zop, zd, zs, zt, zu, za, zk, zpl⟩ Ins.zero
      generalize hB : eqI ⟨zop, zd, zs, zt, zu, za, zk, zpl⟩ Ins.zero = B at hq
      have HB := Lib.hid hB
      clear hB
      unfold iv Ins.zero at hq
      simp only at hq
      go_wp2
      go_ret
      refine ⟨ret_bool ?_, hb⟩
      rw [HR.out, HO.out, HZ.out, isZ_eq, HB.out, hne]; rfl
end Go.Proofs.YthdgehcghklflaaGreatDoor

/- The document's instructions: Ref, Name, reg. -/
namespace Go.Proofs.YthdgehcghklflaaGreatDoor
open Go.ChangeShapes Go.WideShapes Go.ChangeAt Go.RowKit
set_option linter.unusedVariables false

theorem run_eqJ (i j : Ins) (w : World) : (binOp .eql 125 (iv i) (iv j)).run Tryz.prog w = .ok (.bool (eqI i j)) w := by
  unfold iv
  have hu := Tryz.underlying125
  go_simp
  unfold eqI
  repeat' split
  all_goals simp [*]

/-- Block g is the instruction i. -/
def Jb (w : World) (g : Nat) (i : Ins) : Prop := Bk w g 125 #[.int .i64 i.op, .int .i64 i.d, .int .i64 i.s, .int .i64 i.t, .int .i64 i.u, .int .i64 i.a, .int .u32 i.k, .int .i64 i.pl]
theorem Jb.cells {w : World} {g : Nat} {i : Ins} (h : Jb w g i) :
    w.cell? ⟨g, 0, none⟩ = some (.int .i64 i.op) ∧ w.cell? ⟨g, 1, none⟩ = some (.int .i64 i.d) ∧ w.cell? ⟨g, 2, none⟩ = some (.int .i64 i.s) ∧ w.cell? ⟨g, 3, none⟩ = some (.int .i64 i.t) ∧
    w.cell? ⟨g, 4, none⟩ = some (.int .i64 i.u) ∧ w.cell? ⟨g, 5, none⟩ = some (.int .i64 i.a) ∧ w.cell? ⟨g, 6, none⟩ = some (.int .u32 i.k) ∧ w.cell? ⟨g, 7, none⟩ = some (.int .i64 i.pl) :=
  ⟨Bk.cell h 0, Bk.cell h 1, Bk.cell h 2, Bk.cell h 3, Bk.cell h 4, Bk.cell h 5, Bk.cell h 6, Bk.cell h 7⟩
theorem Jb.below {w w' : World} {g : Nat} {i : Ins} (h : Jb w g i) (hb : Below w.heap.size w w') : Jb w' g i := (hb.block g (Bk.lt h)).trans h

theorem Jb.grw {w : World} {b : Nat} {i : Ins} (h : Jb w b i) :
    (∀ g : Grw w, g.x.cell? ⟨b, 0, none⟩ = some (.int .i64 i.op)) ∧ (∀ g : Grw w, g.x.cell? ⟨b, 1, none⟩ = some (.int .i64 i.d)) ∧ (∀ g : Grw w, g.x.cell? ⟨b, 2, none⟩ = some (.int .i64 i.s)) ∧ (∀ g : Grw w, g.x.cell? ⟨b, 3, none⟩ = some (.int .i64 i.t)) ∧
    (∀ g : Grw w, g.x.cell? ⟨b, 4, none⟩ = some (.int .i64 i.u)) ∧ (∀ g : Grw w, g.x.cell? ⟨b, 5, none⟩ = some (.int .i64 i.a)) ∧ (∀ g : Grw w, g.x.cell? ⟨b, 6, none⟩ = some (.int .u32 i.k)) ∧ (∀ g : Grw w, g.x.cell? ⟨b, 7, none⟩ = some (.int .i64 i.pl)) := by
  obtain ⟨c0, c1, c2, c3, c4, c5, c6, c7⟩ := h.cells
  exact ⟨fun g => g.cell c0, fun g => g.cell c1, fun g => g.cell c2, fun g => g.cell c3, fun g => g.cell c4, fun g => g.cell c5, fun g => g.cell c6, fun g => g.cell c7⟩

theorem Jb.made (w : World) (op d s t u a k pl : Int) : Jb (w.alloc (.cells #[.int .i64 op, .int .i64 d, .int .i64 s, .int .i64 t, .int .i64 u, .int .i64 a, .int .u32 k, .int .i64 pl] 125)) w.heap.size ⟨op, d, s, t, u, a, k, pl⟩ := Bk.made _ _ _
theorem boxedJ {w x : World} {op d s t u a k pl : Int} (h : Below (w.alloc (.cells #[.int .i64 op, .int .i64 d, .int .i64 s, .int .i64 t, .int .i64 u, .int .i64 a, .int .u32 k, .int .i64 pl] 125)).heap.size (w.alloc (.cells #[.int .i64 op, .int .i64 d, .int .i64 s, .int .i64 t, .int .i64 u, .int .i64 a, .int .u32 k, .int .i64 pl] 125)) x) : Jb x w.heap.size ⟨op, d, s, t, u, a, k, pl⟩ ∧ Below w.heap.size w x :=
  ⟨(Jb.made w op d s t u a k pl).below h, ((Below.refl _ _).alloc (Nat.le_refl _) _).trans (h.mono (by simp))⟩


theorem put8_jb {y : World} {g : Nat} {i j : Ins} (h : Jb y g j) : Jb (put8 y g i) g i := by
  have h8 := (((((((Bk.put h 0 (.int .i64 i.op)).put 1 (.int .i64 i.d)).put 2 (.int .i64 i.s)).put 3 (.int .i64 i.t)).put 4 (.int .i64 i.u)).put 5 (.int .i64 i.a)).put 6 (.int .u32 i.k)).put 7 (.int .i64 i.pl)
  unfold put8 Jb
  simpa only [List.setIfInBounds_toArray, List.set_cons_zero, List.set_cons_succ] using h8

theorem rRef (i : Ins) (w : World) :
    Calls Tryz.prog 65 #[iv i] w fun e w' => e = .returned (iv i) ∧ Below w.heap.size w w' := by
  obtain ⟨op, d, s, t, u, a, k, pl⟩ := i
  unfold iv
  go_enter Tryz.func65, Tryz.ntmps65
  go_wp2
  refine bodyPost_ret (v := .agg #[.int .i64 op, .int .i64 d, .int .i64 s, .int .i64 t, .int .i64 u, .int .i64 a, .int .u32 k, .int .i64 pl]) (by simp [results, Tryz.results65, go_sem]) rfl ⟨rfl, ?_⟩
  exact ((Below.refl _ _).alloc (Nat.le_refl _) _).alloc (by simp) _

theorem rRegYes (n : Int) (h0 : 0 ≤ n) (h1 : n ≤ 7) (w : World) : Calls Tryz.prog 105 #[.int .i64 n] w fun e w' => e = .returned (.bool true) ∧ w = w' := by
  go_enter Tryz.func105, Tryz.ntmps105
  go_wp2
  go_ret
  exact ⟨rfl, rfl⟩
theorem rRegNo (n : Int) (h : n < 0 ∨ 7 < n) (w : World) : Calls Tryz.prog 105 #[.int .i64 n] w fun e w' => e = .returned (.bool false) ∧ w = w' := by
  rcases h with h | h
  · have h2 : decide (n ≥ 0) = false := by simp; omega
    go_enter Tryz.func105, Tryz.ntmps105
    go_wp2
    go_ret
    exact ⟨rfl, rfl⟩
  · have h2 : decide (n ≤ 7) = false := by simp; omega
    have h3 : 0 ≤ n := by omega
    go_enter Tryz.func105, Tryz.ntmps105
    go_wp2
    go_ret
    exact ⟨rfl, rfl⟩


/-- The names, as the document lays them. -/
def namesA : Array Value := #[.string ⟨#[]⟩, .string ⟨#[99, 111, 110, 115, 116]⟩, .string ⟨#[109, 111, 118, 101]⟩, .string ⟨#[97, 100, 100, 107]⟩, .string ⟨#[97, 110, 100, 107]⟩, .string ⟨#[115, 104, 108]⟩, .string ⟨#[115, 104, 114]⟩, .string ⟨#[111, 114]⟩, .string ⟨#[98, 101, 113]⟩, .string ⟨#[98, 110, 101]⟩, .string ⟨#[106, 117, 109, 112]⟩, .string ⟨#[115, 101, 108, 102]⟩, .string ⟨#[109, 97, 114, 107]⟩, .string ⟨#[100, 111, 110, 101]⟩, .string ⟨#[]⟩, .string ⟨#[]⟩, .string ⟨#[108, 111, 97, 100]⟩, .string ⟨#[115, 116, 111, 114, 101]⟩, .string ⟨#[115, 119, 97, 112]⟩, .string ⟨#[99, 97, 115]⟩, .string ⟨#[102, 97, 100, 100]⟩, .string ⟨#[97, 119, 97, 105, 116]⟩, .string ⟨#[116, 97, 107, 101]⟩, .string ⟨#[102, 114, 101, 101]⟩]
theorem namesA_at : ∀ n : Nat, 1 ≤ n → n ≤ 23 → namesA[n]? = some (.string ⟨(nmL n).toArray⟩) := by
  intro n h1 h2
  have hn : n = 1 ∨ n = 2 ∨ n = 3 ∨ n = 4 ∨ n = 5 ∨ n = 6 ∨ n = 7 ∨ n = 8 ∨ n = 9 ∨ n = 10 ∨ n = 11 ∨ n = 12 ∨ n = 13 ∨ n = 14 ∨ n = 15 ∨ n = 16 ∨ n = 17 ∨ n = 18 ∨ n = 19 ∨ n = 20 ∨ n = 21 ∨ n = 22 ∨ n = 23 := by omega
  rcases hn with rfl | rfl | rfl | rfl | rfl | rfl | rfl | rfl | rfl | rfl | rfl | rfl | rfl | rfl | rfl | rfl | rfl | rfl | rfl | rfl | rfl | rfl | rfl <;> rfl


set_option maxRecDepth 100000 in
theorem rName (op : Int) (w : World) : Calls Tryz.prog 104 #[.int .i64 op] w fun e w' => e = .returned (bs (nmL op)) ∧ Below w.heap.size w w' := by
  by_cases h : op < 1 ∨ 23 < op
  · have E := Lib.hid (show nmL op = [] from (hs_none (by omega)).2)
    generalize nmL op = nm at *
    rcases h with h | h
    · go_enter Tryz.func104, Tryz.ntmps104
      go_wp2_with (first | (refine wpList_build_to rfl 249 _ rfl namesA (by kernel_rfl) ?_) | (refine wpList_store_new rfl 249 _ _ rfl _ namesA rfl rfl (by kernel_rfl) (by kernel_rfl) (by kernel_rfl) ?_))
      go_ret
      exact ⟨by rw [E.out]; rfl, (Below.refl _ _).alloc (Nat.le_refl _) _⟩
    · have h2 : decide (op < 1) = false := by simp; omega
      go_enter Tryz.func104, Tryz.ntmps104
      go_wp2_with (first | (refine wpList_build_to rfl 249 _ rfl namesA (by kernel_rfl) ?_) | (refine wpList_store_new rfl 249 _ _ rfl _ namesA rfl rfl (by kernel_rfl) (by kernel_rfl) (by kernel_rfl) ?_))
      go_ret
      exact ⟨by rw [E.out]; rfl, (Below.refl _ _).alloc (Nat.le_refl _) _⟩
  · obtain ⟨n, hn⟩ : ∃ n : Nat, op = n := ⟨op.toNat, by omega⟩
    subst hn
    have h1 : 1 ≤ n := by omega
    have h23 : n ≤ 23 := by omega
    have hc : (w.alloc (.cells namesA 249)).cell? ⟨w.heap.size, n, none⟩ = some (.string ⟨(nmL n).toArray⟩) := by
      rw [cell_of_row _ _ _ _ _ _ (heap_alloc_new w _)]
      exact namesA_at n h1 h23
    generalize nmL n = nm at *
    have d1 : decide ((n : Int) < 1) = false := by simp; omega
    have d2 : decide ((n : Int) > 23) = false := by simp; omega
    have d3 : (n : Int) < 24 := by omega
    clear h
    go_enter Tryz.func104, Tryz.ntmps104
    go_wp2_with (first | (refine wpList_build_to rfl 249 _ rfl namesA (by kernel_rfl) ?_) | (refine wpList_store_new rfl 249 _ _ rfl _ namesA rfl rfl (by kernel_rfl) (by kernel_rfl) (by kernel_rfl) ?_))
    go_ret
    exact ⟨rfl, (Below.refl _ _).alloc (Nat.le_refl _) _⟩

/-- Each register, and the area, is one. -/
structure Regs (i : Ins) : Prop where
  d : 0 ≤ i.d ∧ i.d ≤ 7
  s : 0 ≤ i.s ∧ i.s ≤ 7
  t : 0 ≤ i.t ∧ i.t ≤ 7
  u : 0 ≤ i.u ∧ i.u ≤ 7
  a : 0 ≤ i.a ∧ i.a ≤ 7
end Go.Proofs.YthdgehcghklflaaGreatDoor

/- The ticket lock's text and program. -/
namespace Go.Proofs.YthdgehcghklflaaGreatDoor
set_option linter.unusedVariables false

/-- Its text. -/
def tkText : List UInt8 := [108, 111, 99, 107, 58, 10, 102, 97, 100, 100, 32, 114, 49, 32, 48, 32, 114, 48, 32, 49, 10, 109, 97, 114, 107, 32, 49, 10, 97, 119, 97, 105, 116, 32, 114, 50, 32, 49, 32, 114, 48, 32, 101, 113, 32, 114, 49, 10, 109, 97, 114, 107, 32, 50, 10, 100, 111, 110, 101, 32, 49, 10, 117, 110, 108, 111, 99, 107, 58, 10, 97, 100, 100, 107, 32, 114, 49, 32, 114, 49, 32, 49, 10, 115, 116, 111, 114, 101, 32, 49, 32, 114, 48, 32, 114, 49, 10, 109, 97, 114, 107, 32, 52, 10, 100, 111, 110, 101, 32, 50, 10]
def tkP : Prg := ⟨tkL, 0, 5⟩
theorem tk_small : tkText.length < 80000 := by decide
/-- The last registers. -/
def tkR (n : Nat) : List Int := List.replicate n 0
end Go.Proofs.YthdgehcghklflaaGreatDoor

/- Programs in memory: a slice of instructions that lies anywhere; alike or not. -/
namespace Go.Proofs.YthdgehcghklflaaGreatDoor
open Go.ChangeShapes Go.WideShapes Go.ChangeAt Go.RowKit
set_option linter.unusedVariables false

/-- The slice at a has just the instructions l. -/
def Sli (w : World) (a : Option Addr) (l : List Ins) : Prop :=
  0 < l.length → ∃ b off, a = some ⟨b, off, none⟩ ∧ b < w.heap.size ∧ ∀ k i, l[k]? = some i → ∀ j, j < 8 → w.cell? ⟨b, off + k * 8 + j, none⟩ = (insC i)[j]?
/-- The value v is the program c; its instructions may lie anywhere. -/
def Pv (w : World) (v : Value) (c : Prg) : Prop := ∃ a cap, v = .agg #[.slice a c.l.length cap, .int .i64 c.lo, .int .i64 c.un] ∧ c.l.length ≤ cap ∧ cap ≤ maxLen ∧ (a = none → cap = 0) ∧ Sli w a c.l
section
variable {w w' : World} {a : Option Addr} {l : List Ins} {v : Value} {c : Prg}
theorem Sli.below (h : Sli w a l) (hb : Below w.heap.size w w') : Sli w' a l := by
  intro h0
  obtain ⟨b, off, e, hlt, hc⟩ := h h0
  exact ⟨b, off, e, Nat.lt_of_lt_of_le hlt hb.size, fun k i hk j hj => (hb.cell (p := ⟨b, off + k * 8 + j, none⟩) hlt).trans (hc k i hk j hj)⟩
theorem Pv.below (h : Pv w v c) (hb : Below w.heap.size w w') : Pv w' v c := by
  obtain ⟨a, cap, e, h1, h2, h4, h3⟩ := h
  exact ⟨a, cap, e, h1, h2, h4, h3.below hb⟩
theorem sli_own {t : TypeId} {base cap : Nat} (h : w.ownsRow base t 8 (.slice a l.length cap) l.length (progC l)) : Sli w a l := by
  intro h0
  obtain ⟨a2, cap2, e, _, _, hg⟩ := own_is h
  simp only [Value.slice.injEq] at e
  obtain ⟨rfl, -, rfl⟩ := e
  obtain ⟨g, rfl, _, _, hlt, _, hc⟩ := hg h0
  refine ⟨g, 0, rfl, hlt, fun k i hk j hj => ?_⟩
  have hkl := (List.getElem?_eq_some_iff.1 hk).1
  rw [Nat.zero_add, hc _ (by omega), progC_at hk hj]
theorem own_nil {t : TypeId} {base n cap size : Nat} {xs : List Value} (h : w.ownsRow base t size (.slice a n cap) n xs) (e : a = none) : cap = 0 := by
  subst e
  rcases h.2 with ⟨h, _⟩ | ⟨g, c, cur, h, _⟩
  · injection h
  · injection h with h; cases h
/-- Instruction k's cells. -/
theorem Sli.at_ (h : Sli w a l) {k : Nat} {i : Ins} (hk : l[k]? = some i) : ∃ b off, a = some ⟨b, off, none⟩ ∧ b < w.heap.size ∧ w.cell? ⟨b, off + k * 8, none⟩ = some (.int .i64 i.op) ∧ w.cell? ⟨b, off + k * 8 + 1, none⟩ = some (.int .i64 i.d) ∧ w.cell? ⟨b, off + k * 8 + 2, none⟩ = some (.int .i64 i.s) ∧ w.cell? ⟨b, off + k * 8 + 3, none⟩ = some (.int .i64 i.t) ∧
    w.cell? ⟨b, off + k * 8 + 4, none⟩ = some (.int .i64 i.u) ∧ w.cell? ⟨b, off + k * 8 + 5, none⟩ = some (.int .i64 i.a) ∧ w.cell? ⟨b, off + k * 8 + 6, none⟩ = some (.int .u32 i.k) ∧ w.cell? ⟨b, off + k * 8 + 7, none⟩ = some (.int .i64 i.pl) := by
  have hkl := (List.getElem?_eq_some_iff.1 hk).1
  obtain ⟨b, off, e, hlt, hc⟩ := h (by omega)
  exact ⟨b, off, e, hlt, hc k i hk 0 (by omega), hc k i hk 1 (by omega), hc k i hk 2 (by omega), hc k i hk 3 (by omega), hc k i hk 4 (by omega), hc k i hk 5 (by omega), hc k i hk 6 (by omega), hc k i hk 7 (by omega)⟩
end

/-- Alike or not. -/
def sameL : List Ins → List Ins → Bool
  | [], [] => true
  | i :: l, j :: m => eqI i j && sameL l m
  | _, _ => false
theorem sameL_iff : ∀ l m : List Ins, sameL l m = true ↔ l = m
  | [], [] => by simp [sameL]
  | [], _ :: _ => by simp [sameL]
  | _ :: _, [] => by simp [sameL]
  | i :: l, j :: m => by simp [sameL, eqI_iff, sameL_iff l m]
theorem sameL_len {l m : List Ins} (h : l.length ≠ m.length) : sameL l m = false := by
  rw [Bool.eq_false_iff]
  intro e
  exact h (by rw [(sameL_iff l m).1 e])
def sameP (c d : Prg) : Bool := decide (c.lo = d.lo) && (decide (c.un = d.un) && sameL c.l d.l)
theorem sameP_iff (c d : Prg) : sameP c d = true ↔ c = d := by
  obtain ⟨l, lo, un⟩ := c
  obtain ⟨m, lo2, un2⟩ := d
  simp [sameP, sameL_iff]
  constructor
  · rintro ⟨h1, h2, h3⟩; exact ⟨h3, h1, h2⟩
  · rintro ⟨h1, h2, h3⟩; exact ⟨h2, h3, h1⟩
theorem sameL_drop (l m : List Ins) (k : Nat) (hk : k < l.length) (hm : k < m.length) : sameL (l.drop k) (m.drop k) = (eqI l[k] m[k] && sameL (l.drop (k + 1)) (m.drop (k + 1))) := by
  rw [List.drop_eq_getElem_cons hk, List.drop_eq_getElem_cons hm, sameL]
end Go.Proofs.YthdgehcghklflaaGreatDoor

/- The law's Ref: the document's program. -/
namespace Go.Proofs.YthdgehcghklflaaGreatDoor
open Go.ChangeShapes Go.WideShapes Go.ChangeAt Go.RowKit
set_option linter.unusedVariables false

theorem refInfo : (Tryz.prog.info? 125).map (fun i => (i.zero, i.size, i.bytes)) = some (some (.agg #[.int .i64 0, .int .i64 0, .int .i64 0, .int .i64 0, .int .i64 0, .int .i64 0, .int .u32 0, .int .i64 0]), 8, 64) := by kernel_rfl
theorem take_snoc {l : List Ins} {k : Nat} (h : k < l.length) : l.take (k + 1) = l.take k ++ [l[k]] := by simp

/-- Behind one more instruction. -/
theorem ref_end {w x y w' : World} {o : Obj} {lo un : Int} {k : Nat} {l : List Ins} {v v' : Value} {i : Ins} {R O : Nat} {rs : Array Value} (hb : Below w.heap.size w x) (hO : Bk x O 35 #[v, .int .i64 lo, .int .i64 un]) (hR : Bk x R 35 rs) (hne : R ≠ O) (hwO : w.heap.size ≤ O)
    (hv : x.ownsRow w.heap.size 125 8 v k (progC l)) (hy : Below x.heap.size x y) (hw : w'.ownsRow w.heap.size 125 8 v' (k + 1) (progC l ++ insC i)) (hg : (y.alloc o).grownBy w' v.ownBlock) :
    Below w.heap.size w (w'.setCell ⟨O, 0, none⟩ v') ∧ Bk (w'.setCell ⟨O, 0, none⟩ v') O 35 #[v', .int .i64 lo, .int .i64 un] ∧ Bk (w'.setCell ⟨O, 0, none⟩ v') R 35 rs ∧ (w'.setCell ⟨O, 0, none⟩ v').ownsRow w.heap.size 125 8 v' (k + 1) (progC (l ++ [i])) := by
  have hA : Within x (y.alloc o) (fun _ => False) := (within_of_below hy).alloc o
  have hB : Within (y.alloc o) w' (fun b => some b = v.ownBlock) := .of_grown hg (by rintro i e; exact .inl e.symm)
  have hC : Within x w' (fun b => some b = v.ownBlock) := (hA.wide (by simp)).then_ hB (by rintro i e; exact .inl e)
  have un_ : ∀ {g : Nat} {cs : Array Value}, Bk x g 35 cs → Bk w' g 35 cs := fun hk => hk.within hC fun e => by
    obtain ⟨cs, hcs⟩ := own_bk hv e.symm
    exact Bk.unlike hcs hk (by decide) rfl
  have hO2 := un_ hO
  have hR2 := un_ hR
  have hb2 : Below w.heap.size w w' := by
    refine hb.trans ⟨hC.os, hC.tape, hC.output, hC.size, fun i hi => hC.block i (Nat.lt_of_lt_of_le hi hb.size) fun e => ?_⟩
    have := (World.ownsRow.lt hv i e.symm).1
    omega
  refine ⟨hb2.setCell hwO _, hO2.put 0 v', hR2.off hne _, ?_⟩
  rw [progC_snoc]
  refine own_within hw ((Within.refl w' (fun b => b = O)).put O 0 v' (.inl rfl)) fun b e e2 => ?_
  obtain ⟨cs, hcs⟩ := own_bk hw e
  exact Bk.unlike hcs hO2 (by decide) e2

set_option maxHeartbeats 1000000 in
theorem lRefO (c : Prg) (v : Value) (w : World) (hv : Pv w v c) (hl : c.l.length ≤ 1000) :
    Calls Tryz.prog 31 #[v] w fun e w' => ∃ sl, e = .returned (.agg #[sl, .int .i64 c.lo, .int .i64 c.un]) ∧ w'.ownsRow w.heap.size 125 8 sl c.l.length (progC c.l) ∧ Below w.heap.size w w' := by
  obtain ⟨a, ca, rfl, hc1, hc2, _, ha⟩ := hv
  obtain ⟨l, lo, un⟩ := c
  simp only at hl hc1 ha ⊢
  have q0 := ((Bk.made w 25 #[.slice a l.length ca, .int .i64 lo, .int .i64 un]).alloc (.cells #[.slice none 0 0, .int .i64 0, .int .i64 0] 35))
  have q1 := Bk.made (w.alloc (.cells #[.slice a l.length ca, .int .i64 lo, .int .i64 un] 25)) 35 #[.slice none 0 0, .int .i64 0, .int .i64 0]
  rw [World.size_alloc] at q1
  have b0 : Below w.heap.size w ((w.alloc (.cells #[.slice a l.length ca, .int .i64 lo, .int .i64 un] 25)).alloc (.cells #[.slice none 0 0, .int .i64 0, .int .i64 0] 35)) := ((Below.refl _ _).alloc (Nat.le_refl _) _).alloc (by simp) _
  go_enter Tryz.func31, Tryz.ntmps31
  go_upto_region 1 with fail
  generalize (w.alloc (.cells #[.slice a l.length ca, .int .i64 lo, .int .i64 un] 25)).alloc (.cells #[.slice none 0 0, .int .i64 0, .int .i64 0] 35) = x at *
  obtain ⟨x0, x1, x2⟩ : x.cell? ⟨w.heap.size, 0, none⟩ = some (.slice a l.length ca) ∧ x.cell? ⟨w.heap.size, 1, none⟩ = some (.int .i64 lo) ∧ x.cell? ⟨w.heap.size, 2, none⟩ = some (.int .i64 un) := ⟨q0.cell 0, q0.cell 1, q0.cell 2⟩
  go_upto_region 2 with fail
  have O0 := Bk.made x 35 #[.slice none 0 0, .int .i64 lo, .int .i64 un]
  have hxw : w.heap.size + 1 < x.heap.size := q1.lt
  replace q0 := q0.alloc (.cells #[.slice none 0 0, .int .i64 lo, .int .i64 un] 35)
  replace q1 := q1.alloc (.cells #[.slice none 0 0, .int .i64 lo, .int .i64 un] 35)
  replace b0 := b0.alloc (o := .cells #[.slice none 0 0, .int .i64 lo, .int .i64 un] 35) b0.size
  generalize x.heap.size = O at *
  generalize x.alloc (.cells #[.slice none 0 0, .int .i64 lo, .int .i64 un] 35) = x at *
  have z0 : x.cell? ⟨w.heap.size, 0, none⟩ = some (.slice a l.length ca) := q0.cell 0
  clear x0 x1 x2 q0
  go_wp2
  go_loopw [14] (fun i wr => ∃ (k : Nat) (v : Value), i = .int .i64 k ∧ k ≤ l.length ∧ Below w.heap.size w wr ∧ Bk wr O 35 #[v, .int .i64 lo, .int .i64 un] ∧ Bk wr (w.heap.size + 1) 35 #[.slice none 0 0, .int .i64 0, .int .i64 0] ∧ wr.ownsRow w.heap.size 125 8 v k (progC (l.take k))) (fun i _ => l.length - (intOf i).toNat)
  case atStart => exact ⟨0, .slice none 0 0, rfl, Nat.zero_le _, b0, O0, q1, World.ownsRow_nil _ _ _ _⟩
  case round =>
    obtain ⟨k, v, rfl, hk, hb, hO, hR, hv⟩ := hrel
    clear z0 O0 q1 b0
    by_cases hlt : k < l.length
    · have hki : (k : Int) < l.length := by omega
      obtain ⟨g, off, rfl, hgl, e0, e1, e2, e3, e4, e5, e6, e7⟩ := (ha.below hb).at_ (List.getElem?_eq_getElem hlt)
      have HT := Lib.hid (take_snoc hlt)
      generalize l[k] = i at *
      have HF := Lib.hid (fun W => rRef i W)
      obtain ⟨op, d, s, t, u, a', k', pl⟩ := i
      simp only at e0 e1 e2 e3 e4 e5 e6 e7
      unfold iv at HF
      simp only at HF
      obtain ⟨a2, cap2, rfl, hcap2, hmax2, _⟩ := own_is hv
      go_upto_region 5 with fail
      have m2 := Ib.made wr op d s t u a' k' pl
      replace hb := hb.alloc (o := .cells #[.int .i64 op, .int .i64 d, .int .i64 s, .int .i64 t, .int .i64 u, .int .i64 a', .int .u32 k', .int .i64 pl] 119) hb.size
      replace hO := hO.alloc (.cells #[.int .i64 op, .int .i64 d, .int .i64 s, .int .i64 t, .int .i64 u, .int .i64 a', .int .u32 k', .int .i64 pl] 119)
      replace hR := hR.alloc (.cells #[.int .i64 op, .int .i64 d, .int .i64 s, .int .i64 t, .int .i64 u, .int .i64 a', .int .u32 k', .int .i64 pl] 119)
      replace hv := World.ownsRow.alloc hv (.cells #[.int .i64 op, .int .i64 d, .int .i64 s, .int .i64 t, .int .i64 u, .int .i64 a', .int .u32 k', .int .i64 pl] 119)
      clear e0 e1 e2 e3 e4 e5 e6 e7
      generalize wr.heap.size = q at *
      generalize wr.alloc (.cells #[.int .i64 op, .int .i64 d, .int .i64 s, .int .i64 t, .int .i64 u, .int .i64 a', .int .u32 k', .int .i64 pl] 119) = x at *
      obtain ⟨e0, e1, e2, e3, e4, e5, e6, e7⟩ := m2.cells
      simp only at e0 e1 e2 e3 e4 e5 e6 e7
      have v0 : x.cell? ⟨O, 0, none⟩ = some (.slice a2 k cap2) := hO.cell 0
      have HV0 : Hid (∀ y, Below x.heap.size x y → y.cell? ⟨O, 0, none⟩ = some (.slice a2 k cap2)) := Lib.hid fun y hy => (hy.cell (p := ⟨O, 0, none⟩) hO.lt).trans v0
      have HV1 : Hid (∀ y, Below x.heap.size x y → ∀ o, (y.alloc o).cell? ⟨O, 0, none⟩ = some (.slice a2 k cap2)) := Lib.hid fun y hy o => (Bk.alloc ((hy.block _ hO.lt).trans hO) o).cell 0
      have HOW : Hid (∀ y, Below x.heap.size x y → (y.alloc (.cells #[.int .i64 op, .int .i64 d, .int .i64 s, .int .i64 t, .int .i64 u, .int .i64 a', .int .u32 k', .int .i64 pl] 125)).ownsRow w.heap.size 125 8 (.slice a2 k cap2) k (progC (l.take k))) := Lib.hid fun y hy => World.ownsRow.alloc (own_within hv (within_of_below hy) (by simp)) _
      have HNW : Hid (∀ y : World, ∀ (j : Nat) (uu : Value), [Value.int .i64 op, .int .i64 d, .int .i64 s, .int .i64 t, .int .i64 u, .int .i64 a', .int .u32 k', .int .i64 pl][j]? = some uu → (y.alloc (.cells #[.int .i64 op, .int .i64 d, .int .i64 s, .int .i64 t, .int .i64 u, .int .i64 a', .int .u32 k', .int .i64 pl] 125)).cell? ((⟨y.heap.size, 0, none⟩ : Addr).add j) = some uu) := Lib.hid fun y => news_bk (Bk.made y 125 #[.int .i64 op, .int .i64 d, .int .i64 s, .int .i64 t, .int .i64 u, .int .i64 a', .int .u32 k', .int .i64 pl])
      have HBS : Hid (∀ y, Below x.heap.size x y → w.heap.size ≤ (y.alloc (.cells #[.int .i64 op, .int .i64 d, .int .i64 s, .int .i64 t, .int .i64 u, .int .i64 a', .int .u32 k', .int .i64 pl] 125)).heap.size) := Lib.hid fun y hy => by rw [World.size_alloc]; have := hb.size; have := hy.size; omega
      have HEND : Hid (∀ y, Below x.heap.size x y → ∀ (w' : World) (v' : Value), w'.ownsRow w.heap.size 125 8 v' (k + 1) (progC (l.take k) ++ insC ⟨op, d, s, t, u, a', k', pl⟩) → (y.alloc (.cells #[.int .i64 op, .int .i64 d, .int .i64 s, .int .i64 t, .int .i64 u, .int .i64 a', .int .u32 k', .int .i64 pl] 125)).grownBy w' (Value.slice a2 k cap2).ownBlock →
        Below w.heap.size w (w'.setCell ⟨O, 0, none⟩ v') ∧ Bk (w'.setCell ⟨O, 0, none⟩ v') O 35 #[v', .int .i64 lo, .int .i64 un] ∧ Bk (w'.setCell ⟨O, 0, none⟩ v') (w.heap.size + 1) 35 #[.slice none 0 0, .int .i64 0, .int .i64 0] ∧ (w'.setCell ⟨O, 0, none⟩ v').ownsRow w.heap.size 125 8 v' (k + 1) (progC (l.take (k + 1)))) :=
        Lib.hid fun y hy w' v' h1 h2 => by rw [HT.out]; exact ref_end hb hO hR (by omega) (by omega) hv hy h1 h2
      have HKO : Hid (∀ y, Below x.heap.size x y → ∀ (w' : World), (y.alloc (.cells #[.int .i64 op, .int .i64 d, .int .i64 s, .int .i64 t, .int .i64 u, .int .i64 a', .int .u32 k', .int .i64 pl] 125)).grownBy w' (Value.slice a2 k cap2).ownBlock → Bk w' O 35 #[.slice a2 k cap2, .int .i64 lo, .int .i64 un]) := Lib.hid fun y hy w' hg =>
        Bk.grown (Bk.alloc ((hy.block _ hO.lt).trans hO) _) hg fun e => by
          obtain ⟨cs, hcs⟩ := own_bk hv e.symm
          exact Bk.unlike hcs hO (by decide) rfl
      clear hO hR hv hb m2 ha HT
      go_region_law (first
        | (have hy9 := hy; refine step_own rfl (.tmp 19) (.tmp 22) 33 rfl _ 64 Tryz.underlying33 refInfo rfl (by omega) (by omega) (HOW.out y hy) (by simp [Act.eval]) (insC ⟨op, d, s, t, u, a', k', pl⟩) rfl (insC_one _) y.heap.size (by simp [Act.eval]) (HNW.out y) (by omega) (HBS.out y hy) ?_; intro v' w' hown hgr hloc; have hko := HKO.out y hy w' hgr; have ck0 : w'.cell? ⟨O, 0, none⟩ = some (.slice a2 k cap2) := hko.cell 0; have cf0 := hko.free 0; obtain ⟨a3, cap3, rfl, _, _, _⟩ := own_is hown)
        | (go_simp; go_at_call 65; refine (HF.out _).mono ?_; rintro e y ⟨rfl, hy0⟩; have hy : Below x.heap.size x y := below_of_drew hy0; have hyv := HV0.out y hy; have hyo := HV1.out y hy))
      all_goals (
        have HS := Lib.hid (HEND.out y hy w' _ hown hgr)
        clear HOW HNW HBS HEND HKO HV0 HV1 HF hgr hown hloc
        go_wp2
        obtain ⟨s1, s2, s3, s4⟩ := HS.out
        go_roundw
        case rel => exact ⟨k + 1, _, by go_num, by omega, s1, s2, s3, s4⟩
        case measure =>
          show l.length - ((k : Int) + 1).toNat < l.length - (k : Int).toNat
          omega)
    · obtain rfl : k = l.length := by omega
      have hki : ¬ (l.length : Int) < l.length := by omega
      rw [List.take_length] at hv
      obtain ⟨a2, cap2, rfl, hcap2, hmax2, _⟩ := own_is hv
      obtain ⟨y0, y1, y2⟩ : wr.cell? ⟨O, 0, none⟩ = some (.slice a2 l.length cap2) ∧ wr.cell? ⟨O, 1, none⟩ = some (.int .i64 lo) ∧ wr.cell? ⟨O, 2, none⟩ = some (.int .i64 un) := ⟨hO.cell 0, hO.cell 1, hO.cell 2⟩
      obtain ⟨z0, z1, z2⟩ : wr.cell? ⟨w.heap.size + 1, 0, none⟩ = some (.slice none 0 0) ∧ wr.cell? ⟨w.heap.size + 1, 1, none⟩ = some (.int .i64 0) ∧ wr.cell? ⟨w.heap.size + 1, 2, none⟩ = some (.int .i64 0) := ⟨hR.cell 0, hR.cell 1, hR.cell 2⟩
      have zf := hR.free
      clear ha
      go_wp2
      have h9 := put3_bk hR (.slice a2 l.length cap2) (.int .i64 lo) (.int .i64 un)
      have b9 := put3_below hb (by show w.heap.size ≤ w.heap.size + 1; omega) (.slice a2 l.length cap2) (.int .i64 lo) (.int .i64 un)
      have o9 : (put3 wr (w.heap.size + 1) (.slice a2 l.length cap2) (.int .i64 lo) (.int .i64 un)).ownsRow w.heap.size 125 8 (.slice a2 l.length cap2) l.length (progC l) := own_within hv ((((Within.refl wr (fun b => b = w.heap.size + 1)).put (w.heap.size + 1) 0 (.slice a2 l.length cap2) (.inl rfl)).put (w.heap.size + 1) 1 (.int .i64 lo) (.inl rfl)).put (w.heap.size + 1) 2 (.int .i64 un) (.inl rfl)) (fun b e e2 => by
        obtain ⟨cs, hcs⟩ := own_bk hv e
        exact Bk.unlike hcs hR (by decide) e2)
      generalize hv9 : (((wr.setCell ⟨w.heap.size + 1, 0, none⟩ (.slice a2 l.length cap2)).setCell ⟨w.heap.size + 1, 1, none⟩ (.int .i64 lo)).setCell ⟨w.heap.size + 1, 2, none⟩ (.int .i64 un)) = v9
      replace hv9 : put3 wr (w.heap.size + 1) (.slice a2 l.length cap2) (.int .i64 lo) (.int .i64 un) = v9 := hv9
      rw [hv9] at h9 b9 o9
      obtain ⟨q0, q1, q2⟩ : v9.cell? ⟨w.heap.size + 1, 0, none⟩ = some (.slice a2 l.length cap2) ∧ v9.cell? ⟨w.heap.size + 1, 1, none⟩ = some (.int .i64 lo) ∧ v9.cell? ⟨w.heap.size + 1, 2, none⟩ = some (.int .i64 un) := ⟨h9.cell 0, h9.cell 1, h9.cell 2⟩
      refine bodyPost_ret (v := .agg #[.slice a2 l.length cap2, .int .i64 lo, .int .i64 un]) (by simp [results, Tryz.results31, go_sem, q0, q1, q2]) rfl ⟨.slice a2 l.length cap2, rfl, o9, b9⟩
theorem own_pv {w : World} {base : Nat} {t : TypeId} {sl : Value} {c : Prg} (h : w.ownsRow base t 8 sl c.l.length (progC c.l)) : Pv w (.agg #[sl, .int .i64 c.lo, .int .i64 c.un]) c := by
  obtain ⟨a, cap, rfl, h1, h2, _⟩ := own_is h
  exact ⟨a, cap, rfl, h1, h2, own_nil h, sli_own h⟩
end Go.Proofs.YthdgehcghklflaaGreatDoor

/- slices.Equal of instructions, asm.Same, the document's Same. -/
namespace Go.Proofs.YthdgehcghklflaaGreatDoor
open Go.ChangeShapes Go.WideShapes Go.ChangeAt Go.RowKit
set_option linter.unusedVariables false

theorem run_neJ (i j : Ins) (w : World) : (binOp .neq 125 (iv i) (iv j)).run Tryz.prog w = .ok (.bool (!eqI i j)) w := by
  unfold iv
  have hu := Tryz.underlying125
  go_simp
  unfold eqI
  repeat' split
  all_goals simp [*]

/-- Two boxes, for a program each. -/
theorem two_boxes (w : World) (t : TypeId) (xs ys : Array Value) : Below w.heap.size w ((w.alloc (.cells xs t)).alloc (.cells ys t)) ∧ Bk ((w.alloc (.cells xs t)).alloc (.cells ys t)) w.heap.size t xs ∧ Bk ((w.alloc (.cells xs t)).alloc (.cells ys t)) (w.heap.size + 1) t ys := by
  have h := Bk.made (w.alloc (.cells xs t)) t ys
  rw [World.size_alloc] at h
  exact ⟨((Below.refl _ _).alloc (Nat.le_refl _) _).alloc (by simp) _, (Bk.made w t xs).alloc _, h⟩

set_option maxHeartbeats 1000000 in
theorem rSame (c d : Prg) (v u : Value) (w : World) (hv : Pv w v c) (hu : Pv w u d) (hl : c.l.length ≤ 100000) :
    Calls Tryz.prog 29 #[v, u] w fun e w' => e = .returned (.bool (sameP c d)) ∧ Below w.heap.size w w' := by
  obtain ⟨a, ca, rfl, _, _, _, ha⟩ := hv
  obtain ⟨b, cb, rfl, _, _, _, hb⟩ := hu
  have HE : Hid (sameP c d = (decide (c.lo = d.lo) && (decide (c.un = d.un) && sameL c.l d.l))) := Lib.hid rfl
  obtain ⟨bb, k1, k2⟩ := two_boxes w 35 #[.slice a c.l.length ca, .int .i64 c.lo, .int .i64 c.un] #[.slice b d.l.length cb, .int .i64 d.lo, .int .i64 d.un]
  replace ha := ha.below bb
  replace hb := hb.below bb
  generalize sameP c d = r at *
  obtain ⟨l, lo, un⟩ := c
  obtain ⟨m, lo2, un2⟩ := d
  simp only at HE bb k1 k2 ha hb hl ⊢
  go_enter Tryz.func29, Tryz.ntmps29
  go_upto_region 1 with fail
  generalize (w.alloc (.cells #[.slice a l.length ca, .int .i64 lo, .int .i64 un] 35)).alloc (.cells #[.slice b m.length cb, .int .i64 lo2, .int .i64 un2] 35) = x at *
  obtain ⟨x0, x1, x2⟩ : x.cell? ⟨w.heap.size, 0, none⟩ = some (.slice a l.length ca) ∧ x.cell? ⟨w.heap.size, 1, none⟩ = some (.int .i64 lo) ∧ x.cell? ⟨w.heap.size, 2, none⟩ = some (.int .i64 un) := ⟨k1.cell 0, k1.cell 1, k1.cell 2⟩
  obtain ⟨y0, y1, y2⟩ : x.cell? ⟨w.heap.size + 1, 0, none⟩ = some (.slice b m.length cb) ∧ x.cell? ⟨w.heap.size + 1, 1, none⟩ = some (.int .i64 lo2) ∧ x.cell? ⟨w.heap.size + 1, 2, none⟩ = some (.int .i64 un2) := ⟨k2.cell 0, k2.cell 1, k2.cell 2⟩
  by_cases hlm : l.length = m.length
  case neg =>
    have hne : ((l.length : Int) != m.length) = true := by simp; omega
    have HS := Lib.hid (sameL_len hlm)
    clear hlm
    go_wp2
    go_ret
    exact ⟨by rw [HE.out, HS.out]; simp, bb⟩
  case pos =>
    have hne : ((l.length : Int) != m.length) = false := by simp; omega
    by_cases h1 : lo = lo2
    case neg =>
      have e1 : (lo != lo2) = true := by simpa using h1
      have H1 := Lib.hid h1
      clear h1
      go_wp2
      go_ret
      exact ⟨by rw [HE.out]; simp [H1.out], bb⟩
    case pos =>
      by_cases h2 : un = un2
      case neg =>
        have e1 : (lo != lo2) = false := by simpa using h1
        have e2 : (un != un2) = true := by simpa using h2
        have H2 := Lib.hid h2
        clear h2 h1
        go_wp2
        go_ret
        exact ⟨by rw [HE.out]; simp [H2.out], bb⟩
      case pos =>
        have HS : Hid (r = sameL (l.drop 0) (m.drop 0)) := Lib.hid (by rw [HE.out]; simp [h1, h2])
        have e1 : (lo != lo2) = false := by simpa using h1
        have e2 : (un != un2) = false := by simpa using h2
        clear HE h1 h2
        go_wp2
        go_loopw [4, 30] (fun q i wr => ∃ k : Nat, q = .bool false ∧ k ≤ l.length ∧ i = .int .i64 k ∧ Below x.heap.size x wr ∧ Hid (r = sameL (l.drop k) (m.drop k))) (fun _ i _ => l.length - (intOf i).toNat)
        case atStart => exact ⟨0, rfl, Nat.zero_le _, rfl, Below.refl _ _, HS⟩
        case round =>
          obtain ⟨k, rfl, hk, rfl, hbw, HR⟩ := hrel
          have z0 : wr.cell? ⟨w.heap.size, 0, none⟩ = some (.slice a l.length ca) := (hbw.cell (p := ⟨w.heap.size, 0, none⟩) k1.lt).trans x0
          have z1 : wr.cell? ⟨w.heap.size + 1, 0, none⟩ = some (.slice b m.length cb) := (hbw.cell (p := ⟨w.heap.size + 1, 0, none⟩) k2.lt).trans y0
          by_cases hlt : k < l.length
          · have hki : (k : Int) < l.length := by omega
            have hkj : (k : Int) < m.length := by omega
            have HD := Lib.hid (sameL_drop l m k hlt (by omega))
            obtain ⟨ba, oa, rfl, _, a0, a1, a2, a3, a4, a5, a6, a7⟩ := (ha.below hbw).at_ (List.getElem?_eq_getElem hlt)
            obtain ⟨bb2, ob, rfl, _, b0, b1, b2, b3, b4, b5, b6, b7⟩ := (hb.below hbw).at_ (List.getElem?_eq_getElem (show k < m.length by omega))
            have hq := run_neJ l[k] m[k]
            generalize l[k] = i at *
            generalize m[k] = j at *
            have HE : Hid (r = (eqI i j && sameL (l.drop (k + 1)) (m.drop (k + 1)))) := Lib.hid (by rw [HR.out, HD.out])
            clear HR HD ha hb x0 x1 x2 y0 y1 y2
            obtain ⟨i0, i1, i2, i3, i4, i5, i6, i7⟩ := i
            obtain ⟨j0, j1, j2, j3, j4, j5, j6, j7⟩ := j
            simp only at a0 a1 a2 a3 a4 a5 a6 a7 b0 b1 b2 b3 b4 b5 b6 b7
            unfold iv at hq
            simp only at hq
            generalize eqI ⟨i0, i1, i2, i3, i4, i5, i6, i7⟩ ⟨j0, j1, j2, j3, j4, j5, j6, j7⟩ = t at *
            have hend := bb.trans (hbw.mono bb.size)
            cases t with
            | true =>
              have HE2 : Hid (r = sameL (l.drop (k + 1)) (m.drop (k + 1))) := Lib.hid (by rw [HE.out]; simp)
              clear HE
              go_wp2
              go_quiet (fail)
              go_wp2
              go_roundw
              case rel => exact ⟨k + 1, rfl, by omega, by go_num, Below.trans hbw ⟨rfl, rfl, rfl, Nat.le_refl _, fun _ _ => rfl⟩, HE2⟩
              case measure =>
                show l.length - ((k : Int) + 1).toNat < l.length - (k : Int).toNat
                omega
            | false =>
              have HE2 : Hid (r = false) := Lib.hid (by rw [HE.out]; simp)
              clear HE
              go_wp2
              go_quiet (fail)
              go_wp2
              go_ret
              exact ⟨by rw [HE2.out]; rfl, Below.trans hend ⟨rfl, rfl, rfl, Nat.le_refl _, fun _ _ => rfl⟩⟩
          · have hki : ¬ (k : Int) < l.length := by omega
            have HE2 : Hid (r = true) := Lib.hid (by rw [HR.out, List.drop_of_length_le (by omega), List.drop_of_length_le (by omega)]; rfl)
            go_wp2
            go_ret
            exact ⟨by rw [HE2.out]; rfl, bb.trans (hbw.mono bb.size)⟩
end Go.Proofs.YthdgehcghklflaaGreatDoor

/- The frame of a law of layer 7: what the listed variables hold, and the world's shape, handed to the walk. -/
namespace Go.Proofs.YthdgehcghklflaaGreatDoor
open Go.Joins Go.ChangeShapes Go.WideShapes Go.ChangeAt Go.RowKit Go.Deep
set_option linter.unusedVariables false

theorem ownA : ownKnob Tryz.prog.godebug = none := by kernel_rfl
theorem laidOutA : laidOutB Tryz.prog = true := by kernel_rfl

theorem star : "*errors.errorString" = "*" ++ "errors.errorString" := by decide
theorem errRow (u : TypeId) (h : Tryz.prog.typeName? 3 u = some "*errors.errorString") : u = 311 :=
  typeName_ptr_named (nm := "errors.errorString") (by rw [← star]; kernel_rfl) (by kernel_rfl) (by decide) u (by rw [← star]; exact h)

/-- What the listed variables hold, and the shape of the world, are what the library's calls read. -/
theorem lb_of {W : World} (hL : laidMet Tryz.prog [("math/bits.deBruijn32tab", Rows.laid_math_bits_deBruijn32tab), ("math/bits.deBruijn64tab", Rows.laid_math_bits_deBruijn64tab), ("internal/strconv.uint64pow10", Rows.laid_internal_strconv_uint64pow10), ("unicode/utf8.acceptRanges", Rows.laid_unicode_utf8_acceptRanges), ("strconv.ErrRange", Rows.laid_strconv_ErrRange), ("strconv.ErrSyntax", Rows.laid_strconv_ErrSyntax), ("unicode/utf8.first", Rows.laid_unicode_utf8_first)] W) (hsh : W.ShapedOpen Tryz.prog) : Lb W := by
  have h2 := hL.tail.tail
  have h4 := h2.tail.tail
  have tab : Lib.TabIs Tryz.prog W "internal/strconv.uint64pow10" .u64 Lib.pow10Tab :=
    Lib.tabIs_of_head (g := 5) (by kernel_rfl) (by kernel_rfl) Tryz.underlying315 Tryz.underlying291 (by kernel_rfl) (by kernel_rfl) h2
  obtain ⟨a1, _, hv1, _⟩ := laid_sentinel h4 (g := 2) (by kernel_rfl) (by kernel_rfl) Tryz.underlying274 (errRow) Tryz.underlying311 Tryz.underlying313 rfl rfl Tryz.underlying9 (by kernel_rfl) (by kernel_rfl)
  obtain ⟨a2, _, hv2, _⟩ := laid_sentinel h4.tail (g := 1) (by kernel_rfl) (by kernel_rfl) Tryz.underlying274 (errRow) Tryz.underlying311 Tryz.underlying313 rfl rfl Tryz.underlying9 (by kernel_rfl) (by kernel_rfl)
  obtain ⟨m, hm⟩ := Tryz.laysM147.s1_3 W hsh
  have c0 : W.cell? ⟨0, 0, none⟩ = some (.int .i64 m) := hm
  have c1 := tab.cell (g := 5) (by kernel_rfl) 0 (by decide)
  have c2 := World.var?_cell (g := 1) (by kernel_rfl) hv2 0
  have c3 := World.var?_cell (g := 2) (by kernel_rfl) hv1 0
  exact ⟨tab, ⟨_, _, hv2⟩, ⟨_, _, hv1⟩, ⟨m, c0⟩, World.block_lt_of_cell? W _ c0, World.block_lt_of_cell? W _ c1, World.block_lt_of_cell? W _ c2, World.block_lt_of_cell? W _ c3⟩

/-- A law's walk, handed what the row lists, and the world's shape beside it. -/
theorem returns_laid {H : Type} {enc : TypeId × Value → H} {a : Assume} {C : Checked} {os : Os} {f : FuncId} {fn : Func} {s : ChangeSpec} {conds : List PathCond} {apart fresh handsOn again : Bool} {X : World → Array Value → Prop}
    (hX : ∀ (w w' : World) (args : Array Value), w.heap = w'.heap → X w args → X w' args)
    (own : ownKnob C.prog.godebug = none) (started : os.Started) (noInit : C.prog.inits.idxOf? f = none) (hfn : C.prog.funcs[f]? = some fn)
    (witness : ∃ (w : World) (tape : Tape) (i : Input), w.os = os ∧ (w.forCall tape i).Shaped C.prog ∧ i.vars = [] ∧ Input.okWide C.prog (w.forCall tape i) .any w.heap.size f i ∧
      ((s.pre enc C.prog fn conds apart (w.forCall tape i).memory i.args ∧ X (w.forCall tape i).memory i.args) ∧ sizedMet enc C.prog fn (OpenSpec.ofChange s) apart (w.forCall tape i).memory i.args) ∧ a.holds C.prog (lone (Frame.enter C.prog f i.args .normal) [] (w.forCall tape i)))
    (walk : ∀ (W : World) (base : Nat) (args : Array Value) (ds gs : List (DataW H)) (before : List MemPlace),
      (∀ (j : Nat) t v, fn.params[j]? = some t → args[j]? = some v → Value.okWide C.prog W .any base t v) →
      DataW.Whole enc C.prog fn.params.toList s.vars apart W args.toList ds gs before → X W args → W.ShapedOpen C.prog →
      Calls C.prog f args W fun e W' => ∃ v, e = .returned v ∧ s.post enc C.prog fn apart fresh handsOn again W args v W') :
    ReturnsInHanded a C os f .any (fun w args => (s.pre enc C.prog fn conds apart w args ∧ X w args) ∧ sizedMet enc C.prog fn (OpenSpec.ofChange s) apart w args) (s.post enc C.prog fn apart fresh handsOn again) := by
  refine returnsInHanded_of_calls own started noInit witness fun w tape i _ hsh _ hok hpre _ => ?_
  obtain ⟨_, _, _, fn', hfn', _, _, _, _, hval⟩ := hok
  obtain rfl : fn' = fn := Option.some.inj (hfn'.symm.trans hfn)
  obtain ⟨⟨⟨ds, gs, before, hw, _⟩, hx⟩, _⟩ := hpre
  refine (walk (w.forCall tape i) w.heap.size i.args ds gs before hval (DataW.Whole.of_heap (by rfl) hw) (hX _ _ _ (by rfl) hx) hsh).mono fun e W' ⟨v, he, hp⟩ => ?_
  subst he
  exact ChangeSpec.post_blind hp
end Go.Proofs.YthdgehcghklflaaGreatDoor

/- A spec, as the program has it and as the document does; the law's Ref of it. -/
namespace Go.Proofs.YthdgehcghklflaaGreatDoor
set_option maxRecDepth 100000
open Go.ChangeShapes Go.WideShapes Go.ChangeAt Go.RowKit
set_option linter.unusedVariables false

/-- The value v is a spec. -/
def Sv (w : World) (v : Value) (c : Prg) (zs init r7 : List Int) (each : Int) : Prop :=
  ∃ aL cL aS cS aI cI aR cR, v = .agg #[.slice aL c.l.length cL, .int .i64 c.lo, .int .i64 c.un, .slice aS zs.length cS, .slice aI init.length cI, .int .i64 each, .slice aR r7.length cR] ∧
    Pv w (.agg #[.slice aL c.l.length cL, .int .i64 c.lo, .int .i64 c.un]) c ∧ Given .i64 w aS zs ∧ Given .u32 w aI init ∧ Given .u32 w aR r7 ∧ zs.length ≤ maxLen ∧ init.length ≤ maxLen ∧ r7.length ≤ maxLen
theorem Given.below {k : IntKind} {w w' : World} {a : Option Addr} {xs : List Int} (h : Given k w a xs) (hb : Below w.heap.size w w') : Given k w' a xs := by
  intro h0
  obtain ⟨b, off, e, hlt, hc⟩ := h h0
  exact ⟨b, off, e, Nat.lt_of_lt_of_le hlt hb.size, fun i hi => (hb.cell (p := ⟨b, off + i, none⟩) hlt).trans (hc i hi)⟩
theorem Sv.below {w w' : World} {v : Value} {c : Prg} {zs init r7 : List Int} {each : Int} (h : Sv w v c zs init r7 each) (hb : Below w.heap.size w w') : Sv w' v c zs init r7 each := by
  obtain ⟨aL, cL, aS, cS, aI, cI, aR, cR, e, h1, h2, h3, h4, h5⟩ := h
  exact ⟨aL, cL, aS, cS, aI, cI, aR, cR, e, h1.below hb, h2.below hb, h3.below hb, h4.below hb, h5⟩

theorem own_below {W W' : World} {base n sz : Nat} {t : TypeId} {v : Value} {xs : List Value} (h : W.ownsRow base t sz v n xs) (hb : Below W.heap.size W W') : W'.ownsRow base t sz v n xs := own_within h (within_of_below hb) (by simp)

/-- A row isn't where a block of another type has changed. -/
theorem own_safe {W W' : World} {base n sz b : Nat} {t u : TypeId} {v : Value} {xs : List Value} {cs : Array Value} (h : W.ownsRow base t sz v n xs) (hw : Within W W' (fun i => i = b)) (hb : Bk W b u cs) (hne : t ≠ u) : W'.ownsRow base t sz v n xs :=
  own_within h hw fun g e e2 => by
    obtain ⟨cs', hcs⟩ := own_bk h e
    exact Bk.unlike hcs hb hne e2
/-- Seven cells of a block are others. -/
def put7 (y : World) (g : Nat) (a b c d e f h : Value) : World := ((((((y.setCell ⟨g, 0, none⟩ a).setCell ⟨g, 1, none⟩ b).setCell ⟨g, 2, none⟩ c).setCell ⟨g, 3, none⟩ d).setCell ⟨g, 4, none⟩ e).setCell ⟨g, 5, none⟩ f).setCell ⟨g, 6, none⟩ h
theorem put7_bk {y : World} {g : Nat} {t : TypeId} {x0 x1 x2 x3 x4 x5 x6 : Value} (hb : Bk y g t #[x0, x1, x2, x3, x4, x5, x6]) (a b c d e f h : Value) : Bk (put7 y g a b c d e f h) g t #[a, b, c, d, e, f, h] := by
  have h8 := ((((((hb.put 0 a).put 1 b).put 2 c).put 3 d).put 4 e).put 5 f).put 6 h
  unfold put7
  simpa only [List.setIfInBounds_toArray, List.set_cons_zero, List.set_cons_succ] using h8
theorem put7_within {y : World} {g : Nat} (a b c d e f h : Value) : Within y (put7 y g a b c d e f h) (fun i => i = g) := by
  unfold put7
  exact (((((((Within.refl y (fun i => i = g)).put g 0 a (.inl rfl)).put g 1 b (.inl rfl)).put g 2 c (.inl rfl)).put g 3 d (.inl rfl)).put g 4 e (.inl rfl)).put g 5 f (.inl rfl)).put g 6 h (.inl rfl)
theorem put7_below {B : Nat} {w y : World} {g : Nat} (hb : Below B w y) (hg : B ≤ g) (a b c d e f h : Value) : Below B w (put7 y g a b c d e f h) :=
  ((((((hb.setCell hg _).setCell hg _).setCell hg _).setCell hg _).setCell hg _).setCell hg _).setCell hg _

/-- The value v is the document's spec; its program lies in a row of its own, at base or beyond. -/
def Rv (base : Nat) (w : World) (v : Value) (c : Prg) (zs init r7 : List Int) (each : Int) : Prop :=
  ∃ sl aS cS aI cI aR cR, v = .agg #[sl, .int .i64 c.lo, .int .i64 c.un, .slice aS zs.length cS, .slice aI init.length cI, .int .i64 each, .slice aR r7.length cR] ∧
    w.ownsRow base 125 8 sl c.l.length (progC c.l) ∧ Given .i64 w aS zs ∧ Given .u32 w aI init ∧ Given .u32 w aR r7 ∧ zs.length ≤ maxLen ∧ init.length ≤ maxLen ∧ r7.length ≤ maxLen
theorem Rv.below {base : Nat} {w w' : World} {v : Value} {c : Prg} {zs init r7 : List Int} {each : Int} (h : Rv base w v c zs init r7 each) (hb : Below w.heap.size w w') : Rv base w' v c zs init r7 each := by
  obtain ⟨sl, aS, cS, aI, cI, aR, cR, e, h1, h2, h3, h4, h5⟩ := h
  exact ⟨sl, aS, cS, aI, cI, aR, cR, e, own_below h1 hb, h2.below hb, h3.below hb, h4.below hb, h5⟩

set_option maxHeartbeats 1000000 in
theorem lRef10 {w : World} {v : Value} {c : Prg} {zs init r7 : List Int} {each : Int} (hv : Sv w v c zs init r7 each) (hc : c.l.length ≤ 1000) :
    Calls Tryz.prog 11 #[v] w fun e w' => ∃ v', e = .returned v' ∧ Rv w.heap.size w' v' c zs init r7 each ∧ Below w.heap.size w w' := by
  obtain ⟨aL, cL, aS, cS, aI, cI, aR, cR, rfl, hpv, hgS, hgI, hgR, hm1, hm2, hm3⟩ := hv
  have q0 := (Bk.made w 29 #[.slice aL c.l.length cL, .int .i64 c.lo, .int .i64 c.un, .slice aS zs.length cS, .slice aI init.length cI, .int .i64 each, .slice aR r7.length cR]).alloc (.cells #[.slice none 0 0, .int .i64 0, .int .i64 0, .slice none 0 0, .slice none 0 0, .int .i64 0, .slice none 0 0] 37)
  have q1 := Bk.made (w.alloc (.cells #[.slice aL c.l.length cL, .int .i64 c.lo, .int .i64 c.un, .slice aS zs.length cS, .slice aI init.length cI, .int .i64 each, .slice aR r7.length cR] 29)) 37 #[.slice none 0 0, .int .i64 0, .int .i64 0, .slice none 0 0, .slice none 0 0, .int .i64 0, .slice none 0 0]
  rw [World.size_alloc] at q1
  have b0 : Below w.heap.size w ((w.alloc (.cells #[.slice aL c.l.length cL, .int .i64 c.lo, .int .i64 c.un, .slice aS zs.length cS, .slice aI init.length cI, .int .i64 each, .slice aR r7.length cR] 29)).alloc (.cells #[.slice none 0 0, .int .i64 0, .int .i64 0, .slice none 0 0, .slice none 0 0, .int .i64 0, .slice none 0 0] 37)) := ((Below.refl _ _).alloc (Nat.le_refl _) _).alloc (by simp) _
  go_enter Tryz.func11, Tryz.ntmps11
  go_upto_region 1 with fail
  generalize (w.alloc (.cells #[.slice aL c.l.length cL, .int .i64 c.lo, .int .i64 c.un, .slice aS zs.length cS, .slice aI init.length cI, .int .i64 each, .slice aR r7.length cR] 29)).alloc (.cells #[.slice none 0 0, .int .i64 0, .int .i64 0, .slice none 0 0, .slice none 0 0, .int .i64 0, .slice none 0 0] 37) = y at *
  have HRF := Lib.hid (fun W (hW : Below w.heap.size w W) => lRefO c _ W (hpv.below hW) hc)
  have kx : ∀ (W : World) (u : Value) (i j : Nat), (W.setCell ⟨w.heap.size + 1, i, none⟩ u).cell? ⟨w.heap.size, j, none⟩ = W.cell? ⟨w.heap.size, j, none⟩ := fun W u i j => cell_off (by omega)
  have HQ : Hid (∀ W, Below y.heap.size y W → Bk W w.heap.size 29 _ ∧ Bk W (w.heap.size + 1) 37 _ ∧ Below w.heap.size w W) := Lib.hid fun W hW => ⟨(hW.block _ q0.lt).trans q0, (hW.block _ q1.lt).trans q1, b0.trans (hW.mono b0.size)⟩
  obtain ⟨f0, f1, f2, f3, f4, f5, f6⟩ : y.cell? ⟨w.heap.size, 0, none⟩ = some (.slice aL c.l.length cL) ∧ y.cell? ⟨w.heap.size, 1, none⟩ = some (.int .i64 c.lo) ∧ y.cell? ⟨w.heap.size, 2, none⟩ = some (.int .i64 c.un) ∧ y.cell? ⟨w.heap.size, 3, none⟩ = some (.slice aS zs.length cS) ∧ y.cell? ⟨w.heap.size, 4, none⟩ = some (.slice aI init.length cI) ∧ y.cell? ⟨w.heap.size, 5, none⟩ = some (.int .i64 each) ∧ y.cell? ⟨w.heap.size, 6, none⟩ = some (.slice aR r7.length cR) := ⟨q0.cell 0, q0.cell 1, q0.cell 2, q0.cell 3, q0.cell 4, q0.cell 5, q0.cell 6⟩
  refine wp_region_flow [12] (fun j W => match j with | 0 => Below y.heap.size y W | _ => ∃ sl, W.ownsRow w.heap.size 125 8 sl c.l.length (progC c.l) ∧ Bk W (w.heap.size + 1) 37 #[sl, .int .i64 c.lo, .int .i64 c.un, .slice aS zs.length cS, .slice aI init.length cI, .int .i64 each, .slice aR r7.length cR] ∧ Below w.heap.size w W) (fun _ W W2 => Within W W2 (fun i => i = w.heap.size + 1) ∧ Bk W (w.heap.size + 1) 37 #[.slice none 0 0, .int .i64 0, .int .i64 0, .slice none 0 0, .slice none 0 0, .int .i64 0, .slice none 0 0]) (fun vs => { tmps := #[.agg #[.slice aL c.l.length cL, .int .i64 c.lo, .int .i64 c.un, .slice aS zs.length cS, .slice aI init.length cI, .int .i64 each, .slice aR r7.length cR], .pointer (some ⟨w.heap.size, 0, none⟩), .pointer (some ⟨w.heap.size + 1, 0, none⟩), vs 0, vs 1, vs 2, vs 3, vs 4, vs 5, vs 6, vs 7, vs 8, vs 9, vs 10, vs 11], defers := [] }) (mixT [(2, (fun v W => ∃ sl, v = .agg #[sl, .int .i64 c.lo, .int .i64 c.un] ∧ W.ownsRow w.heap.size 125 8 sl c.l.length (progC c.l))), (11, (fun v W => ∃ sl, v = .agg #[sl, .int .i64 c.lo, .int .i64 c.un, .slice aS zs.length cS, .slice aI init.length cI, .int .i64 each, .slice aR r7.length cR] ∧ W.ownsRow w.heap.size 125 8 sl c.l.length (progC c.l)))] [.pointer (some ⟨w.heap.size, 0, none⟩), .agg #[.slice aL c.l.length cL, .int .i64 c.lo, .int .i64 c.un], undef, .pointer (some ⟨w.heap.size, 3, none⟩), .slice aS zs.length cS, .pointer (some ⟨w.heap.size, 4, none⟩), .slice aI init.length cI, .pointer (some ⟨w.heap.size, 5, none⟩), .int .i64 each, .pointer (some ⟨w.heap.size, 6, none⟩), .slice aR r7.length cR, undef, undef]) ?ghm ?ghr ?ghc ?ghnd ?ghlit ?gh0 ?ghW ?ghF ?ghS ?gops ?gdone
  case ghm => kernel_rfl
  case ghr => kernel_rfl
  case ghc => kernel_rfl
  case ghnd => decide
  case ghlit => intro vs; rfl
  case gh0 => exact Below.refl _ _
  case ghW => exact fun kk W W2 h hb => match kk, h with
    | 0, h => h.trans (hb.mono h.size)
    | _ + 1, ⟨sl, h1, h2, h3⟩ => ⟨sl, own_below h1 hb, (hb.block _ h2.lt).trans h2, h3.trans (hb.mono h3.size)⟩
  case ghF => exact mixT_stable (by
    intro p0 hp
    simp only [List.mem_cons, List.not_mem_nil, or_false] at hp
    rcases hp with rfl | rfl
    · rintro v W W2 ⟨sl, e, h⟩ hb; exact ⟨sl, e, own_below h hb⟩
    · rintro v W W2 ⟨sl, e, h⟩ hb; exact ⟨sl, e, own_below h hb⟩)
  case ghS => exact fun kk W W2 _ hs i v h => mixT_keep (R := fun W W2 => Within W W2 (fun i => i = w.heap.size + 1) ∧ Bk W (w.heap.size + 1) 37 #[.slice none 0 0, .int .i64 0, .int .i64 0, .slice none 0 0, .slice none 0 0, .int .i64 0, .slice none 0 0]) (ps := [(2, (fun v W => ∃ sl, v = .agg #[sl, .int .i64 c.lo, .int .i64 c.un] ∧ W.ownsRow w.heap.size 125 8 sl c.l.length (progC c.l))), (11, (fun v W => ∃ sl, v = .agg #[sl, .int .i64 c.lo, .int .i64 c.un, .slice aS zs.length cS, .slice aI init.length cI, .int .i64 each, .slice aR r7.length cR] ∧ W.ownsRow w.heap.size 125 8 sl c.l.length (progC c.l)))]) (l := [.pointer (some ⟨w.heap.size, 0, none⟩), .agg #[.slice aL c.l.length cL, .int .i64 c.lo, .int .i64 c.un], undef, .pointer (some ⟨w.heap.size, 3, none⟩), .slice aS zs.length cS, .pointer (some ⟨w.heap.size, 4, none⟩), .slice aI init.length cI, .pointer (some ⟨w.heap.size, 5, none⟩), .int .i64 each, .pointer (some ⟨w.heap.size, 6, none⟩), .slice aR r7.length cR, undef, undef]) (by
    intro p0 hp
    simp only [List.mem_cons, List.not_mem_nil, or_false] at hp
    rcases hp with rfl | rfl
    · rintro v W W2 ⟨sl, e, h⟩ hs; exact ⟨sl, e, own_safe h hs.1 hs.2 (by decide)⟩
    · rintro v W W2 ⟨sl, e, h⟩ hs; exact ⟨sl, e, own_safe h hs.1 hs.2 (by decide)⟩) i v W W2 h hs
  case gops =>
    refine ⟨?_, ?_, ?_, ?_, ?_, ?_, ?_, ?_, ?_, ?_, ?_, ?_, ?_, trivial⟩
    · intro vs W kk h1 h2 hW hd
      obtain rfl : kk = 0 := Nat.le_zero.1 h2
      refine leaves_free rfl ?_
      clear hd
      go_simp
      exact ⟨rfl, Below.refl _ _⟩
    · intro vs W kk h1 h2 hW hd
      obtain rfl : kk = 0 := Nat.le_zero.1 h2
      refine leaves_free rfl ?_
      have e0 : vs 0 = .pointer (some ⟨w.heap.size, 0, none⟩) := hd 0 (by decide)
      have hq := (HQ.out W hW).1; obtain ⟨f0, f1, f2, f3, f4, f5, f6⟩ : W.cell? ⟨w.heap.size, 0, none⟩ = some (.slice aL c.l.length cL) ∧ W.cell? ⟨w.heap.size, 1, none⟩ = some (.int .i64 c.lo) ∧ W.cell? ⟨w.heap.size, 2, none⟩ = some (.int .i64 c.un) ∧ W.cell? ⟨w.heap.size, 3, none⟩ = some (.slice aS zs.length cS) ∧ W.cell? ⟨w.heap.size, 4, none⟩ = some (.slice aI init.length cI) ∧ W.cell? ⟨w.heap.size, 5, none⟩ = some (.int .i64 each) ∧ W.cell? ⟨w.heap.size, 6, none⟩ = some (.slice aR r7.length cR) := ⟨hq.cell 0, hq.cell 1, hq.cell 2, hq.cell 3, hq.cell 4, hq.cell 5, hq.cell 6⟩; have hr := (HQ.out W hW).2.1; obtain ⟨z0, z1, z2, z3, z4, z5, z6⟩ : W.cell? ⟨w.heap.size + 1, 0, none⟩ = some (.slice none 0 0) ∧ W.cell? ⟨w.heap.size + 1, 1, none⟩ = some (.int .i64 0) ∧ W.cell? ⟨w.heap.size + 1, 2, none⟩ = some (.int .i64 0) ∧ W.cell? ⟨w.heap.size + 1, 3, none⟩ = some (.slice none 0 0) ∧ W.cell? ⟨w.heap.size + 1, 4, none⟩ = some (.slice none 0 0) ∧ W.cell? ⟨w.heap.size + 1, 5, none⟩ = some (.int .i64 0) ∧ W.cell? ⟨w.heap.size + 1, 6, none⟩ = some (.slice none 0 0) := ⟨hr.cell 0, hr.cell 1, hr.cell 2, hr.cell 3, hr.cell 4, hr.cell 5, hr.cell 6⟩; have zf := Bk.free hr; clear hq
      clear hd
      go_simp
      exact ⟨rfl, Below.refl _ _⟩
    · intro vs W kk h1 h2 hW hd
      obtain rfl : kk = 0 := Nat.le_zero.1 h2
      refine leaves_free rfl ?_
      have e1 : vs 1 = .agg #[.slice aL c.l.length cL, .int .i64 c.lo, .int .i64 c.un] := hd 1 (by decide)
      have HS := Lib.hid (HRF.out W (HQ.out W hW).2.2)
      have hsz := (HQ.out W hW).2.2.size
      clear hd
      go_simp
      refine HS.out.mono ?_
      rintro e zz ⟨sl, he, ho, hb⟩
      exact ⟨_, he, ⟨sl, rfl, World.ownsRow.mono (base' := w.heap.size) ho hsz⟩, hb⟩
    · intro vs W kk h1 h2 hW hd
      obtain rfl : kk = 0 := Nat.le_zero.1 h2
      refine leaves_free rfl ?_
      clear hd
      go_simp
      exact ⟨rfl, Below.refl _ _⟩
    · intro vs W kk h1 h2 hW hd
      obtain rfl : kk = 0 := Nat.le_zero.1 h2
      refine leaves_free rfl ?_
      have e3 : vs 3 = .pointer (some ⟨w.heap.size, 3, none⟩) := hd 3 (by decide)
      have hq := (HQ.out W hW).1; obtain ⟨f0, f1, f2, f3, f4, f5, f6⟩ : W.cell? ⟨w.heap.size, 0, none⟩ = some (.slice aL c.l.length cL) ∧ W.cell? ⟨w.heap.size, 1, none⟩ = some (.int .i64 c.lo) ∧ W.cell? ⟨w.heap.size, 2, none⟩ = some (.int .i64 c.un) ∧ W.cell? ⟨w.heap.size, 3, none⟩ = some (.slice aS zs.length cS) ∧ W.cell? ⟨w.heap.size, 4, none⟩ = some (.slice aI init.length cI) ∧ W.cell? ⟨w.heap.size, 5, none⟩ = some (.int .i64 each) ∧ W.cell? ⟨w.heap.size, 6, none⟩ = some (.slice aR r7.length cR) := ⟨hq.cell 0, hq.cell 1, hq.cell 2, hq.cell 3, hq.cell 4, hq.cell 5, hq.cell 6⟩; have hr := (HQ.out W hW).2.1; obtain ⟨z0, z1, z2, z3, z4, z5, z6⟩ : W.cell? ⟨w.heap.size + 1, 0, none⟩ = some (.slice none 0 0) ∧ W.cell? ⟨w.heap.size + 1, 1, none⟩ = some (.int .i64 0) ∧ W.cell? ⟨w.heap.size + 1, 2, none⟩ = some (.int .i64 0) ∧ W.cell? ⟨w.heap.size + 1, 3, none⟩ = some (.slice none 0 0) ∧ W.cell? ⟨w.heap.size + 1, 4, none⟩ = some (.slice none 0 0) ∧ W.cell? ⟨w.heap.size + 1, 5, none⟩ = some (.int .i64 0) ∧ W.cell? ⟨w.heap.size + 1, 6, none⟩ = some (.slice none 0 0) := ⟨hr.cell 0, hr.cell 1, hr.cell 2, hr.cell 3, hr.cell 4, hr.cell 5, hr.cell 6⟩; have zf := Bk.free hr; clear hq
      clear hd
      go_simp
      exact ⟨rfl, Below.refl _ _⟩
    · intro vs W kk h1 h2 hW hd
      obtain rfl : kk = 0 := Nat.le_zero.1 h2
      refine leaves_free rfl ?_
      clear hd
      go_simp
      exact ⟨rfl, Below.refl _ _⟩
    · intro vs W kk h1 h2 hW hd
      obtain rfl : kk = 0 := Nat.le_zero.1 h2
      refine leaves_free rfl ?_
      have e5 : vs 5 = .pointer (some ⟨w.heap.size, 4, none⟩) := hd 5 (by decide)
      have hq := (HQ.out W hW).1; obtain ⟨f0, f1, f2, f3, f4, f5, f6⟩ : W.cell? ⟨w.heap.size, 0, none⟩ = some (.slice aL c.l.length cL) ∧ W.cell? ⟨w.heap.size, 1, none⟩ = some (.int .i64 c.lo) ∧ W.cell? ⟨w.heap.size, 2, none⟩ = some (.int .i64 c.un) ∧ W.cell? ⟨w.heap.size, 3, none⟩ = some (.slice aS zs.length cS) ∧ W.cell? ⟨w.heap.size, 4, none⟩ = some (.slice aI init.length cI) ∧ W.cell? ⟨w.heap.size, 5, none⟩ = some (.int .i64 each) ∧ W.cell? ⟨w.heap.size, 6, none⟩ = some (.slice aR r7.length cR) := ⟨hq.cell 0, hq.cell 1, hq.cell 2, hq.cell 3, hq.cell 4, hq.cell 5, hq.cell 6⟩; have hr := (HQ.out W hW).2.1; obtain ⟨z0, z1, z2, z3, z4, z5, z6⟩ : W.cell? ⟨w.heap.size + 1, 0, none⟩ = some (.slice none 0 0) ∧ W.cell? ⟨w.heap.size + 1, 1, none⟩ = some (.int .i64 0) ∧ W.cell? ⟨w.heap.size + 1, 2, none⟩ = some (.int .i64 0) ∧ W.cell? ⟨w.heap.size + 1, 3, none⟩ = some (.slice none 0 0) ∧ W.cell? ⟨w.heap.size + 1, 4, none⟩ = some (.slice none 0 0) ∧ W.cell? ⟨w.heap.size + 1, 5, none⟩ = some (.int .i64 0) ∧ W.cell? ⟨w.heap.size + 1, 6, none⟩ = some (.slice none 0 0) := ⟨hr.cell 0, hr.cell 1, hr.cell 2, hr.cell 3, hr.cell 4, hr.cell 5, hr.cell 6⟩; have zf := Bk.free hr; clear hq
      clear hd
      go_simp
      exact ⟨rfl, Below.refl _ _⟩
    · intro vs W kk h1 h2 hW hd
      obtain rfl : kk = 0 := Nat.le_zero.1 h2
      refine leaves_free rfl ?_
      clear hd
      go_simp
      exact ⟨rfl, Below.refl _ _⟩
    · intro vs W kk h1 h2 hW hd
      obtain rfl : kk = 0 := Nat.le_zero.1 h2
      refine leaves_free rfl ?_
      have e7 : vs 7 = .pointer (some ⟨w.heap.size, 5, none⟩) := hd 7 (by decide)
      have hq := (HQ.out W hW).1; obtain ⟨f0, f1, f2, f3, f4, f5, f6⟩ : W.cell? ⟨w.heap.size, 0, none⟩ = some (.slice aL c.l.length cL) ∧ W.cell? ⟨w.heap.size, 1, none⟩ = some (.int .i64 c.lo) ∧ W.cell? ⟨w.heap.size, 2, none⟩ = some (.int .i64 c.un) ∧ W.cell? ⟨w.heap.size, 3, none⟩ = some (.slice aS zs.length cS) ∧ W.cell? ⟨w.heap.size, 4, none⟩ = some (.slice aI init.length cI) ∧ W.cell? ⟨w.heap.size, 5, none⟩ = some (.int .i64 each) ∧ W.cell? ⟨w.heap.size, 6, none⟩ = some (.slice aR r7.length cR) := ⟨hq.cell 0, hq.cell 1, hq.cell 2, hq.cell 3, hq.cell 4, hq.cell 5, hq.cell 6⟩; have hr := (HQ.out W hW).2.1; obtain ⟨z0, z1, z2, z3, z4, z5, z6⟩ : W.cell? ⟨w.heap.size + 1, 0, none⟩ = some (.slice none 0 0) ∧ W.cell? ⟨w.heap.size + 1, 1, none⟩ = some (.int .i64 0) ∧ W.cell? ⟨w.heap.size + 1, 2, none⟩ = some (.int .i64 0) ∧ W.cell? ⟨w.heap.size + 1, 3, none⟩ = some (.slice none 0 0) ∧ W.cell? ⟨w.heap.size + 1, 4, none⟩ = some (.slice none 0 0) ∧ W.cell? ⟨w.heap.size + 1, 5, none⟩ = some (.int .i64 0) ∧ W.cell? ⟨w.heap.size + 1, 6, none⟩ = some (.slice none 0 0) := ⟨hr.cell 0, hr.cell 1, hr.cell 2, hr.cell 3, hr.cell 4, hr.cell 5, hr.cell 6⟩; have zf := Bk.free hr; clear hq
      clear hd
      go_simp
      exact ⟨rfl, Below.refl _ _⟩
    · intro vs W kk h1 h2 hW hd
      obtain rfl : kk = 0 := Nat.le_zero.1 h2
      refine leaves_free rfl ?_
      clear hd
      go_simp
      exact ⟨rfl, Below.refl _ _⟩
    · intro vs W kk h1 h2 hW hd
      obtain rfl : kk = 0 := Nat.le_zero.1 h2
      refine leaves_free rfl ?_
      have e9 : vs 9 = .pointer (some ⟨w.heap.size, 6, none⟩) := hd 9 (by decide)
      have hq := (HQ.out W hW).1; obtain ⟨f0, f1, f2, f3, f4, f5, f6⟩ : W.cell? ⟨w.heap.size, 0, none⟩ = some (.slice aL c.l.length cL) ∧ W.cell? ⟨w.heap.size, 1, none⟩ = some (.int .i64 c.lo) ∧ W.cell? ⟨w.heap.size, 2, none⟩ = some (.int .i64 c.un) ∧ W.cell? ⟨w.heap.size, 3, none⟩ = some (.slice aS zs.length cS) ∧ W.cell? ⟨w.heap.size, 4, none⟩ = some (.slice aI init.length cI) ∧ W.cell? ⟨w.heap.size, 5, none⟩ = some (.int .i64 each) ∧ W.cell? ⟨w.heap.size, 6, none⟩ = some (.slice aR r7.length cR) := ⟨hq.cell 0, hq.cell 1, hq.cell 2, hq.cell 3, hq.cell 4, hq.cell 5, hq.cell 6⟩; have hr := (HQ.out W hW).2.1; obtain ⟨z0, z1, z2, z3, z4, z5, z6⟩ : W.cell? ⟨w.heap.size + 1, 0, none⟩ = some (.slice none 0 0) ∧ W.cell? ⟨w.heap.size + 1, 1, none⟩ = some (.int .i64 0) ∧ W.cell? ⟨w.heap.size + 1, 2, none⟩ = some (.int .i64 0) ∧ W.cell? ⟨w.heap.size + 1, 3, none⟩ = some (.slice none 0 0) ∧ W.cell? ⟨w.heap.size + 1, 4, none⟩ = some (.slice none 0 0) ∧ W.cell? ⟨w.heap.size + 1, 5, none⟩ = some (.int .i64 0) ∧ W.cell? ⟨w.heap.size + 1, 6, none⟩ = some (.slice none 0 0) := ⟨hr.cell 0, hr.cell 1, hr.cell 2, hr.cell 3, hr.cell 4, hr.cell 5, hr.cell 6⟩; have zf := Bk.free hr; clear hq
      clear hd
      go_simp
      exact ⟨rfl, Below.refl _ _⟩
    · intro vs W kk h1 h2 hW hd
      obtain rfl : kk = 0 := Nat.le_zero.1 h2
      refine leaves_free rfl ?_
      have e4 : vs 4 = .slice aS zs.length cS := hd 4 (by decide)
      have e6 : vs 6 = .slice aI init.length cI := hd 6 (by decide)
      have e8 : vs 8 = .int .i64 each := hd 8 (by decide)
      have e10 : vs 10 = .slice aR r7.length cR := hd 10 (by decide)
      obtain ⟨sl, e2, ho⟩ : ∃ sl, vs 2 = .agg #[sl, .int .i64 c.lo, .int .i64 c.un] ∧ W.ownsRow w.heap.size 125 8 sl c.l.length (progC c.l) := hd 2 (by decide)
      clear hd
      go_simp
      exact ⟨⟨sl, rfl, ho⟩, Below.refl _ _⟩
    · intro vs W hW hd
      obtain ⟨sl, e11, ho⟩ : ∃ sl, vs 11 = .agg #[sl, .int .i64 c.lo, .int .i64 c.un, .slice aS zs.length cS, .slice aI init.length cI, .int .i64 each, .slice aR r7.length cR] ∧ W.ownsRow w.heap.size 125 8 sl c.l.length (progC c.l) := hd 11 (by decide)
      obtain ⟨aL9, cL9, rfl, -⟩ := own_is ho
      have hq := (HQ.out W hW).1; obtain ⟨f0, f1, f2, f3, f4, f5, f6⟩ : W.cell? ⟨w.heap.size, 0, none⟩ = some (.slice aL c.l.length cL) ∧ W.cell? ⟨w.heap.size, 1, none⟩ = some (.int .i64 c.lo) ∧ W.cell? ⟨w.heap.size, 2, none⟩ = some (.int .i64 c.un) ∧ W.cell? ⟨w.heap.size, 3, none⟩ = some (.slice aS zs.length cS) ∧ W.cell? ⟨w.heap.size, 4, none⟩ = some (.slice aI init.length cI) ∧ W.cell? ⟨w.heap.size, 5, none⟩ = some (.int .i64 each) ∧ W.cell? ⟨w.heap.size, 6, none⟩ = some (.slice aR r7.length cR) := ⟨hq.cell 0, hq.cell 1, hq.cell 2, hq.cell 3, hq.cell 4, hq.cell 5, hq.cell 6⟩; have hr := (HQ.out W hW).2.1; obtain ⟨z0, z1, z2, z3, z4, z5, z6⟩ : W.cell? ⟨w.heap.size + 1, 0, none⟩ = some (.slice none 0 0) ∧ W.cell? ⟨w.heap.size + 1, 1, none⟩ = some (.int .i64 0) ∧ W.cell? ⟨w.heap.size + 1, 2, none⟩ = some (.int .i64 0) ∧ W.cell? ⟨w.heap.size + 1, 3, none⟩ = some (.slice none 0 0) ∧ W.cell? ⟨w.heap.size + 1, 4, none⟩ = some (.slice none 0 0) ∧ W.cell? ⟨w.heap.size + 1, 5, none⟩ = some (.int .i64 0) ∧ W.cell? ⟨w.heap.size + 1, 6, none⟩ = some (.slice none 0 0) := ⟨hr.cell 0, hr.cell 1, hr.cell 2, hr.cell 3, hr.cell 4, hr.cell 5, hr.cell 6⟩; have zf := Bk.free hr; clear hq
      refine leavesIf_free rfl ?_
      clear hd
      go_simp
      exact ⟨rfl, ⟨.slice aL9 c.l.length cL9, own_safe ho (put7_within (y := W) (g := w.heap.size + 1) (.slice aL9 c.l.length cL9) (.int .i64 c.lo) (.int .i64 c.un) (.slice aS zs.length cS) (.slice aI init.length cI) (.int .i64 each) (.slice aR r7.length cR)) hr (by decide), put7_bk hr (.slice aL9 c.l.length cL9) (.int .i64 c.lo) (.int .i64 c.un) (.slice aS zs.length cS) (.slice aI init.length cI) (.int .i64 each) (.slice aR r7.length cR), put7_below (HQ.out W hW).2.2 (by omega) (.slice aL9 c.l.length cL9) (.int .i64 c.lo) (.int .i64 c.un) (.slice aS zs.length cS) (.slice aI init.length cI) (.int .i64 each) (.slice aR r7.length cR)⟩, put7_within (y := W) (g := w.heap.size + 1) (.slice aL9 c.l.length cL9) (.int .i64 c.lo) (.int .i64 c.un) (.slice aS zs.length cS) (.slice aI init.length cI) (.int .i64 each) (.slice aR r7.length cR)⟩
  case gdone =>
    intro vs W hW hf
    have f0 : vs 0 = .pointer (some ⟨w.heap.size, 0, none⟩) := hf 0 (by decide)
    have f1 : vs 1 = .agg #[.slice aL c.l.length cL, .int .i64 c.lo, .int .i64 c.un] := hf 1 (by decide)
    have f3 : vs 3 = .pointer (some ⟨w.heap.size, 3, none⟩) := hf 3 (by decide)
    have f4 : vs 4 = .slice aS zs.length cS := hf 4 (by decide)
    have f5 : vs 5 = .pointer (some ⟨w.heap.size, 4, none⟩) := hf 5 (by decide)
    have f6 : vs 6 = .slice aI init.length cI := hf 6 (by decide)
    have f7 : vs 7 = .pointer (some ⟨w.heap.size, 5, none⟩) := hf 7 (by decide)
    have f8 : vs 8 = .int .i64 each := hf 8 (by decide)
    have f9 : vs 9 = .pointer (some ⟨w.heap.size, 6, none⟩) := hf 9 (by decide)
    have f10 : vs 10 = .slice aR r7.length cR := hf 10 (by decide)
    simp only [f0, f1, f3, f4, f5, f6, f7, f8, f9, f10]
    clear f0 f1 f3 f4 f5 f6 f7 f8 f9 f10
    obtain ⟨sl, ho, hB, hb⟩ : ∃ sl, W.ownsRow w.heap.size 125 8 sl c.l.length (progC c.l) ∧ Bk W (w.heap.size + 1) 37 #[sl, .int .i64 c.lo, .int .i64 c.un, .slice aS zs.length cS, .slice aI init.length cI, .int .i64 each, .slice aR r7.length cR] ∧ Below w.heap.size w W := hW
    clear hf HQ HRF kx f0 f1 f2 f3 f4 f5 f6 q0 q1
    obtain ⟨f0, f1, f2, f3, f4, f5, f6⟩ : W.cell? ⟨w.heap.size + 1, 0, none⟩ = some sl ∧ W.cell? ⟨w.heap.size + 1, 1, none⟩ = some (.int .i64 c.lo) ∧ W.cell? ⟨w.heap.size + 1, 2, none⟩ = some (.int .i64 c.un) ∧ W.cell? ⟨w.heap.size + 1, 3, none⟩ = some (.slice aS zs.length cS) ∧ W.cell? ⟨w.heap.size + 1, 4, none⟩ = some (.slice aI init.length cI) ∧ W.cell? ⟨w.heap.size + 1, 5, none⟩ = some (.int .i64 each) ∧ W.cell? ⟨w.heap.size + 1, 6, none⟩ = some (.slice aR r7.length cR) := ⟨hB.cell 0, hB.cell 1, hB.cell 2, hB.cell 3, hB.cell 4, hB.cell 5, hB.cell 6⟩
    go_wp
    exact bodyPost_ret (v := .agg #[sl, .int .i64 c.lo, .int .i64 c.un, .slice aS zs.length cS, .slice aI init.length cI, .int .i64 each, .slice aR r7.length cR]) (by simp [results, Tryz.results11, go_sem, f0, f1, f2, f3, f4, f5, f6]) rfl ⟨_, rfl, ⟨sl, aS, cS, aI, cI, aR, cR, rfl, ho, hgS.below hb, hgI.below hb, hgR.below hb, hm1, hm2, hm3⟩, hb⟩
end Go.Proofs.YthdgehcghklflaaGreatDoor

/- The document's run: words. -/
namespace Go.Proofs.YthdgehcghklflaaGreatDoor
set_option maxRecDepth 100000
open Go.ChangeShapes Go.WideShapes Go.ChangeAt Go.RowKit
set_option linter.unusedVariables false

theorem below_drawnV (z : World) (n : Nat) : Below z.heap.size z (z.drewN n) := ⟨rfl, rfl, rfl, Nat.le_refl _, fun _ _ => rfl⟩
theorem take_same {xs ys : List Int} {j : Nat} (hj : j < xs.length) (hl : xs.length = ys.length) (h : xs.take j = ys.take j) (e : nth xs j = nth ys j) : xs.take (j + 1) = ys.take (j + 1) := by
  rw [take_at xs j hj, take_at ys j (by omega), h]
  rw [nth_lt hj, nth_lt (by omega)] at e
  rw [e]
theorem take_other {xs ys : List Int} {j : Nat} (e : nth xs j ≠ nth ys j) : xs ≠ ys := fun h => e (by rw [h])
set_option maxHeartbeats 2000000 in
theorem rWords32 (w : World) (a b : Option Addr) (ca cb : Nat) (xs ys : List Int) (ha : Given .u32 w a xs) (hb : Given .u32 w b ys) (hm : xs.length ≤ maxLen) (hm2 : ys.length ≤ maxLen) :
    Calls Tryz.prog 30 #[.slice a xs.length ca, .slice b ys.length cb] w fun e w' => e = .returned (.bool (decide (xs = ys))) ∧ Below w.heap.size w w' := by
  have HA := Lib.hid ha
  have HB := Lib.hid hb
  simp only [maxLen] at hm hm2
  clear ha hb
  by_cases hl : xs.length = ys.length
  · have HL := Lib.hid hl
    have dl : ((xs.length : Int) != (ys.length : Int)) = false := by rw [hl]; simp
    have HR : Hid (∀ v, decide (xs = ys) = v → (Ending.returned (.bool v) : Ending) = .returned (.bool (decide (xs = ys)))) := Lib.hid (fun v h => by rw [h])
    generalize hres : decide (xs = ys) = res at HR ⊢
    have HRes := Lib.hid hres
    clear hl hres
    go_enter Tryz.func30, Tryz.ntmps30
    go_wp2
    go_loopw [13] (fun x wr => ∃ (j : Nat), x = .int .i64 j ∧ j ≤ xs.length ∧ Hid (xs.take j = ys.take j) ∧ Below w.heap.size w wr) (fun x _ => xs.length - (intOf x).toNat)
    case atStart => exact ⟨0, rfl, Nat.zero_le _, Lib.hid rfl, Below.refl _ _⟩
    case round =>
      obtain ⟨j, rfl, hj, HT, hbl⟩ := hrel
      by_cases hlt : j < xs.length
      · have hji : (j : Int) < xs.length := by omega
        have hjy : (j : Int) < ys.length := by have := HL.out; omega
        obtain ⟨b1, o1, rfl, c1⟩ := HA.out.at_ hlt hbl
        obtain ⟨b2, o2, rfl, c2⟩ := HB.out.at_ (show j < ys.length by omega) hbl
        have HE := Lib.hid (fun e => take_same hlt HL.out HT.out e)
        have HN := Lib.hid (fun e => take_other (xs := xs) (ys := ys) (j := j) e)
        generalize nth xs j = x at *
        generalize nth ys j = y at *
        cases hq : (x != y) with
        | true =>
          have HV : Hid (res = false) := Lib.hid (by rw [← HRes.out]; exact decide_eq_false (HN.out (bne_iff_ne.1 hq)))
          clear HE HN HT
          go_upto_region 6 with fail
          go_quiet (fail)
          have hfin := hbl.trans ((below_drawnV wr nq).mono hbl.size)
          generalize wr.drewN nq = v at *
          go_wp2
          go_ret
          exact ⟨by rw [HV.out]; rfl, hfin⟩
        | false =>
          have HE2 := Lib.hid (HE.out (by simpa using hq))
          clear HE HN HT
          go_upto_region 6 with fail
          go_quiet (fail)
          have hfin := hbl.trans ((below_drawnV wr nq).mono hbl.size)
          generalize wr.drewN nq = v at *
          clear c1 c2 hbl
          go_wp2
          go_roundw
          case rel => exact ⟨j + 1, by go_num, by omega, HE2, hfin⟩
          case measure => simp [intOf]; omega
      · obtain rfl : j = xs.length := by omega
        have HV : Hid (res = true) := Lib.hid (by
          rw [← HRes.out]
          have h := HT.out
          rw [List.take_length, HL.out, List.take_length] at h
          exact decide_eq_true h)
        clear HT
        go_wp2
        go_ret
        exact ⟨by rw [HV.out]; rfl, hbl⟩
  · have dl : ((xs.length : Int) != (ys.length : Int)) = true := bne_iff_ne.2 (by omega)
    have HV : Hid (decide (xs = ys) = false) := Lib.hid (decide_eq_false (fun h => hl (by rw [h])))
    clear hl
    go_enter Tryz.func30, Tryz.ntmps30
    go_wp2
    go_ret
    exact ⟨by rw [HV.out]; rfl, Below.refl _ _⟩
end Go.Proofs.YthdgehcghklflaaGreatDoor

/- The document's run: SameSpec. -/
namespace Go.Proofs.YthdgehcghklflaaGreatDoor
set_option maxRecDepth 100000
open Go.ChangeShapes Go.WideShapes Go.ChangeAt Go.RowKit
set_option linter.unusedVariables false

/-- A spec of the document's, to be read. -/
def SpV (w : World) (v : Value) (c : Prg) (zs init r7 : List Int) (each : Int) : Prop :=
  ∃ aL cL aS cS aI cI aR cR, v = .agg #[.slice aL c.l.length cL, .int .i64 c.lo, .int .i64 c.un, .slice aS zs.length cS, .slice aI init.length cI, .int .i64 each, .slice aR r7.length cR] ∧ Pv w (.agg #[.slice aL c.l.length cL, .int .i64 c.lo, .int .i64 c.un]) c ∧ Given .i64 w aS zs ∧ Given .u32 w aI init ∧ Given .u32 w aR r7 ∧ zs.length ≤ maxLen ∧ init.length ≤ maxLen ∧ r7.length ≤ maxLen
set_option maxHeartbeats 3000000 in
theorem rSameSpec (w : World) (v u : Value) (c d : Prg) (zs init r7 zs2 init2 r72 : List Int) (each each2 : Int) (hv : SpV w v c zs init r7 each) (hu : SpV w u d zs2 init2 r72 each2) (hc : c.l.length ≤ 100000) :
    Calls Tryz.prog 10 #[v, u] w fun e w' => e = .returned (.bool (decide (zs = zs2) && (decide (each = each2) && (sameP c d && (decide (init = init2) && decide (r7 = r72)))))) ∧ Below w.heap.size w w' := by
  obtain ⟨aL, cL, aS, cS, aI, cI, aR, cR, rfl, p1, p2, p3, p4, p5, p6, p7⟩ := hv
  obtain ⟨bL, dL, bS, dS, bI, dI, bR, dR, rfl, q1, q2, q3, q4, q5, q6, q7⟩ := hu
  have HSm : Hid (∀ W, Below w.heap.size w W → Calls Tryz.prog 29 #[.agg #[.slice aL c.l.length cL, .int .i64 c.lo, .int .i64 c.un], .agg #[.slice bL d.l.length dL, .int .i64 d.lo, .int .i64 d.un]] W fun e w' => e = .returned (.bool (sameP c d)) ∧ Below W.heap.size W w') := Lib.hid (fun W hW => rSame c d _ _ W (p1.below hW) (q1.below hW) hc)
  have HW1 : Hid (∀ W, Below w.heap.size w W → Calls Tryz.prog 30 #[.slice aI init.length cI, .slice bI init2.length dI] W fun e w' => e = .returned (.bool (decide (init = init2))) ∧ Below W.heap.size W w') := Lib.hid (fun W hW => rWords32 W aI bI cI dI init init2 (p3.below hW) (q3.below hW) p6 q6)
  have HW2 : Hid (∀ W, Below w.heap.size w W → Calls Tryz.prog 30 #[.slice aR r7.length cR, .slice bR r72.length dR] W fun e w' => e = .returned (.bool (decide (r7 = r72))) ∧ Below W.heap.size W w') := Lib.hid (fun W hW => rWords32 W aR bR cR dR r7 r72 (p4.below hW) (q4.below hW) p7 q7)
  have HA := Lib.hid p2
  have HB := Lib.hid q2
  obtain ⟨bb, k1, k2⟩ := two_boxes w 37 #[.slice aL c.l.length cL, .int .i64 c.lo, .int .i64 c.un, .slice aS zs.length cS, .slice aI init.length cI, .int .i64 each, .slice aR r7.length cR] #[.slice bL d.l.length dL, .int .i64 d.lo, .int .i64 d.un, .slice bS zs2.length dS, .slice bI init2.length dI, .int .i64 each2, .slice bR r72.length dR]
  simp only [maxLen] at p5 q5
  clear p1 p2 p3 p4 p6 p7 q1 q2 q3 q4 q6 q7 hc
  obtain ⟨res, hres⟩ : ∃ res, (decide (zs = zs2) && (decide (each = each2) && (sameP c d && (decide (init = init2) && decide (r7 = r72))))) = res := ⟨_, rfl⟩
  rw [hres]
  have HRes : Hid (res = (decide (zs = zs2) && (decide (each = each2) && (sameP c d && (decide (init = init2) && decide (r7 = r72)))))) := Lib.hid hres.symm
  clear hres
  go_enter Tryz.func10, Tryz.ntmps10
  go_upto_region 1 with fail
  generalize (w.alloc (.cells #[.slice aL c.l.length cL, .int .i64 c.lo, .int .i64 c.un, .slice aS zs.length cS, .slice aI init.length cI, .int .i64 each, .slice aR r7.length cR] 37)).alloc (.cells #[.slice bL d.l.length dL, .int .i64 d.lo, .int .i64 d.un, .slice bS zs2.length dS, .slice bI init2.length dI, .int .i64 each2, .slice bR r72.length dR] 37) = y at *
  obtain ⟨x0, x1, x2, x3, x4, x5, x6⟩ : y.cell? ⟨w.heap.size, 0, none⟩ = some (.slice aL c.l.length cL) ∧ y.cell? ⟨w.heap.size, 1, none⟩ = some (.int .i64 c.lo) ∧ y.cell? ⟨w.heap.size, 2, none⟩ = some (.int .i64 c.un) ∧ y.cell? ⟨w.heap.size, 3, none⟩ = some (.slice aS zs.length cS) ∧ y.cell? ⟨w.heap.size, 4, none⟩ = some (.slice aI init.length cI) ∧ y.cell? ⟨w.heap.size, 5, none⟩ = some (.int .i64 each) ∧ y.cell? ⟨w.heap.size, 6, none⟩ = some (.slice aR r7.length cR) := ⟨k1.cell 0, k1.cell 1, k1.cell 2, k1.cell 3, k1.cell 4, k1.cell 5, k1.cell 6⟩
  obtain ⟨z0, z1, z2, z3, z4, z5, z6⟩ : y.cell? ⟨w.heap.size + 1, 0, none⟩ = some (.slice bL d.l.length dL) ∧ y.cell? ⟨w.heap.size + 1, 1, none⟩ = some (.int .i64 d.lo) ∧ y.cell? ⟨w.heap.size + 1, 2, none⟩ = some (.int .i64 d.un) ∧ y.cell? ⟨w.heap.size + 1, 3, none⟩ = some (.slice bS zs2.length dS) ∧ y.cell? ⟨w.heap.size + 1, 4, none⟩ = some (.slice bI init2.length dI) ∧ y.cell? ⟨w.heap.size + 1, 5, none⟩ = some (.int .i64 each2) ∧ y.cell? ⟨w.heap.size + 1, 6, none⟩ = some (.slice bR r72.length dR) := ⟨k2.cell 0, k2.cell 1, k2.cell 2, k2.cell 3, k2.cell 4, k2.cell 5, k2.cell 6⟩
  have K1 := Lib.hid k1
  have K2 := Lib.hid k2
  clear k1 k2
  by_cases hl : zs.length = zs2.length
  · have dl : ((zs.length : Int) != (zs2.length : Int)) = false := by rw [hl]; simp
    have HL := Lib.hid hl
    clear hl
    cases de : (each != each2) with
    | true =>
      have HV : Hid (res = false) := Lib.hid (by rw [HRes.out, decide_eq_false (bne_iff_ne.1 de)]; simp)
      clear HSm HW1 HW2
      go_wp2
      go_ret
      exact ⟨by rw [HV.out]; rfl, bb⟩
    | false =>
      have HEq : Hid (each = each2) := Lib.hid (by simpa using de)
      go_wp2
      go_loopw [23] (fun x wr => ∃ (j : Nat), x = .int .i64 j ∧ j ≤ zs.length ∧ Hid (zs.take j = zs2.take j) ∧ Hid (Below y.heap.size y wr)) (fun x _ => zs.length - (intOf x).toNat)
      case atStart => exact ⟨0, rfl, Nat.zero_le _, Lib.hid rfl, Lib.hid (Below.refl _ _)⟩
      case round =>
        clear x0 x1 x2 x3 x4 x5 x6 z0 z1 z2 z3 z4 z5 z6
        obtain ⟨j, rfl, hj, HT, HBl⟩ := hrel
        have hbl := HBl.out
        have hbw := bb.trans (hbl.mono bb.size)
        have k1 := Bk.within K1.out (within_of_below hbl) (by simp)
        have k2 := Bk.within K2.out (within_of_below hbl) (by simp)
        obtain ⟨x0, x1, x2, x3, x4, x5, x6⟩ : wr.cell? ⟨w.heap.size, 0, none⟩ = some (.slice aL c.l.length cL) ∧ wr.cell? ⟨w.heap.size, 1, none⟩ = some (.int .i64 c.lo) ∧ wr.cell? ⟨w.heap.size, 2, none⟩ = some (.int .i64 c.un) ∧ wr.cell? ⟨w.heap.size, 3, none⟩ = some (.slice aS zs.length cS) ∧ wr.cell? ⟨w.heap.size, 4, none⟩ = some (.slice aI init.length cI) ∧ wr.cell? ⟨w.heap.size, 5, none⟩ = some (.int .i64 each) ∧ wr.cell? ⟨w.heap.size, 6, none⟩ = some (.slice aR r7.length cR) := ⟨k1.cell 0, k1.cell 1, k1.cell 2, k1.cell 3, k1.cell 4, k1.cell 5, k1.cell 6⟩
        obtain ⟨z0, z1, z2, z3, z4, z5, z6⟩ : wr.cell? ⟨w.heap.size + 1, 0, none⟩ = some (.slice bL d.l.length dL) ∧ wr.cell? ⟨w.heap.size + 1, 1, none⟩ = some (.int .i64 d.lo) ∧ wr.cell? ⟨w.heap.size + 1, 2, none⟩ = some (.int .i64 d.un) ∧ wr.cell? ⟨w.heap.size + 1, 3, none⟩ = some (.slice bS zs2.length dS) ∧ wr.cell? ⟨w.heap.size + 1, 4, none⟩ = some (.slice bI init2.length dI) ∧ wr.cell? ⟨w.heap.size + 1, 5, none⟩ = some (.int .i64 each2) ∧ wr.cell? ⟨w.heap.size + 1, 6, none⟩ = some (.slice bR r72.length dR) := ⟨k2.cell 0, k2.cell 1, k2.cell 2, k2.cell 3, k2.cell 4, k2.cell 5, k2.cell 6⟩
        by_cases hlt : j < zs.length
        · have hji : (j : Int) < zs.length := by omega
          have hjy : (j : Int) < zs2.length := by have := HL.out; omega
          obtain ⟨b1, o1, rfl, c1⟩ := HA.out.at_ hlt hbw
          obtain ⟨b2, o2, rfl, c2⟩ := HB.out.at_ (show j < zs2.length by omega) hbw
          have HE := Lib.hid (fun e => take_same hlt HL.out HT.out e)
          have HN := Lib.hid (fun e => take_other (xs := zs) (ys := zs2) (j := j) e)
          generalize nth zs j = x at *
          generalize nth zs2 j = x9 at *
          clear k1 k2 HSm HW1 HW2
          cases hq : (x != x9) with
          | true =>
            have HV : Hid (res = false) := Lib.hid (by rw [HRes.out, decide_eq_false (HN.out (bne_iff_ne.1 hq))]; simp)
            clear HE HN HT
            go_upto_region 6 with fail
            go_quiet (fail)
            have hfin := hbw.trans ((below_drawnV wr nq).mono hbw.size)
            generalize wr.drewN nq = v at *
            go_wp2
            go_ret
            exact ⟨by rw [HV.out]; rfl, hfin⟩
          | false =>
            have HE2 := Lib.hid (HE.out (by simpa using hq))
            clear HE HN HT
            go_upto_region 6 with fail
            go_quiet (fail)
            have HF := Lib.hid (hbl.trans ((below_drawnV wr nq).mono hbl.size))
            generalize wr.drewN nq = v at *
            clear c1 c2 hbl hbw
            go_wp2
            go_roundw
            case rel => exact ⟨j + 1, by go_num, by omega, HE2, HF⟩
            case measure => simp [intOf]; omega
        · obtain rfl : j = zs.length := by omega
          have HZ : Hid (res = (sameP c d && (decide (init = init2) && decide (r7 = r72)))) := Lib.hid (by
            have h := HT.out
            rw [List.take_length, HL.out, List.take_length] at h
            rw [HRes.out, decide_eq_true h, decide_eq_true HEq.out, Bool.true_and, Bool.true_and])
          clear HT
          have HC1 := Lib.hid (HSm.out wr hbw)
          have HKK : Hid (∀ W, Below wr.heap.size wr W → Below w.heap.size w W ∧ (W.cell? ⟨w.heap.size, 0, none⟩ = some (.slice aL c.l.length cL) ∧ W.cell? ⟨w.heap.size, 1, none⟩ = some (.int .i64 c.lo) ∧ W.cell? ⟨w.heap.size, 2, none⟩ = some (.int .i64 c.un) ∧ W.cell? ⟨w.heap.size, 3, none⟩ = some (.slice aS zs.length cS) ∧ W.cell? ⟨w.heap.size, 4, none⟩ = some (.slice aI init.length cI) ∧ W.cell? ⟨w.heap.size, 5, none⟩ = some (.int .i64 each) ∧ W.cell? ⟨w.heap.size, 6, none⟩ = some (.slice aR r7.length cR)) ∧ (W.cell? ⟨w.heap.size + 1, 0, none⟩ = some (.slice bL d.l.length dL) ∧ W.cell? ⟨w.heap.size + 1, 1, none⟩ = some (.int .i64 d.lo) ∧ W.cell? ⟨w.heap.size + 1, 2, none⟩ = some (.int .i64 d.un) ∧ W.cell? ⟨w.heap.size + 1, 3, none⟩ = some (.slice bS zs2.length dS) ∧ W.cell? ⟨w.heap.size + 1, 4, none⟩ = some (.slice bI init2.length dI) ∧ W.cell? ⟨w.heap.size + 1, 5, none⟩ = some (.int .i64 each2) ∧ W.cell? ⟨w.heap.size + 1, 6, none⟩ = some (.slice bR r72.length dR))) := Lib.hid (fun W hW => by
            have j1 := Bk.within k1 (within_of_below hW) (by simp)
            have j2 := Bk.within k2 (within_of_below hW) (by simp)
            exact ⟨hbw.trans (hW.mono hbw.size), ⟨j1.cell 0, j1.cell 1, j1.cell 2, j1.cell 3, j1.cell 4, j1.cell 5, j1.cell 6⟩, ⟨j2.cell 0, j2.cell 1, j2.cell 2, j2.cell 3, j2.cell 4, j2.cell 5, j2.cell 6⟩⟩)
          clear HSm k1 k2 hbl
          generalize sameP c d = o1 at *
          generalize decide (init = init2) = o2 at *
          generalize decide (r7 = r72) = o3 at *
          go_wp2_with fail
          refine HC1.out.mono ?_
          rintro e w1 ⟨rfl, hw1⟩
          obtain ⟨hbw1, ⟨x0, x1, x2, x3, x4, x5, x6⟩, ⟨z0, z1, z2, z3, z4, z5, z6⟩⟩ := HKK.out w1 hw1
          cases o1 with
          | false =>
            have HV : Hid (res = false) := Lib.hid (by rw [HZ.out]; rfl)
            clear HC1 HKK HW1 HW2
            go_wp2
            go_ret
            exact ⟨by rw [HV.out]; rfl, hbw1⟩
          | true =>
            have HC2 := Lib.hid (HW1.out w1 hbw1)
            clear HC1 HW1
            go_wp2_with fail
            refine HC2.out.mono ?_
            rintro e w2 ⟨rfl, hw2⟩
            obtain ⟨hbw2, ⟨x0, x1, x2, x3, x4, x5, x6⟩, ⟨z0, z1, z2, z3, z4, z5, z6⟩⟩ := HKK.out w2 (hw1.trans (hw2.mono hw1.size))
            cases o2 with
            | false =>
              have HV : Hid (res = false) := Lib.hid (by rw [HZ.out]; rfl)
              clear HC2 HKK HW2
              go_wp2
              go_ret
              exact ⟨by rw [HV.out]; rfl, hbw2⟩
            | true =>
              have HC3 := Lib.hid (HW2.out w2 hbw2)
              clear HC2 HW2 HKK
              go_wp2_with fail
              refine HC3.out.mono ?_
              rintro e w3 ⟨rfl, hw3⟩
              have HV : Hid (res = o3) := Lib.hid (by rw [HZ.out]; rfl)
              have hbw3 := hbw2.trans (hw3.mono hbw2.size)
              clear HC3
              go_wp2
              go_ret
              exact ⟨by rw [HV.out]; rfl, hbw3⟩
  · have dl : ((zs.length : Int) != (zs2.length : Int)) = true := bne_iff_ne.2 (by omega)
    have HV : Hid (res = false) := Lib.hid (by rw [HRes.out, decide_eq_false (fun h => hl (by rw [h]))]; simp)
    clear hl HSm HW1 HW2
    go_wp2
    go_ret
    exact ⟨by rw [HV.out]; rfl, bb⟩
end Go.Proofs.YthdgehcghklflaaGreatDoor
