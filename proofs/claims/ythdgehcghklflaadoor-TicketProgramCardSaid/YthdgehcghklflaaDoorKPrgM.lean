/- PrgM, InstB, WdB, InstR, TkT, InstC, LnA, AsmB, Prg. -/
import Derived.Test.YthdgehcghklflaaDoorKMem
import Derived.Deep.RegionLaw
import Derived.Lib.AtoiAll
import Derived.Lib.IndexMore
import Derived.Deep.WholeRow
import Derived.Laws.Tables
import Derived.Lib.AtoiAllCases
import Derived.BigRegionIn
import Derived.Deep.RegionHeld3
import Derived.Deep.CutBlock
/- Programs: a list of instructions and two places; their cells. -/
namespace Go.Proofs.YthdgehcghklflaaDoor
open Go.ChangeShapes Go.WideShapes Go.ChangeAt Go.RowKit
set_option linter.unusedVariables false

/-- A program. -/
structure Prg where
  l : List Ins
  lo : Int
  un : Int
def Prg.zero : Prg := ⟨[], 0, 0⟩

/-- May a program be? -/
def prgB (c : Prg) : Bool := decide (1 ≤ c.l.length) && (decide (c.l.length ≤ 64) && (decide (0 ≤ c.lo) && (decide (0 ≤ c.un) && (decide (c.lo < c.l.length) && (decide (c.un < c.l.length) && c.l.all fun i => rightB i c.l.length)))))

/-- An instruction's cells; a program's. -/
def insC (i : Ins) : List Value := [.int .i64 i.op, .int .i64 i.d, .int .i64 i.s, .int .i64 i.t, .int .i64 i.u, .int .i64 i.a, .int .u32 i.k, .int .i64 i.pl]
theorem insC_len (i : Ins) : (insC i).length = 8 := rfl
def progC (l : List Ins) : List Value := l.flatMap insC
theorem progC_snoc (l : List Ins) (i : Ins) : progC (l ++ [i]) = progC l ++ insC i := by simp [progC]
theorem insC_one (i : Ins) : ∀ u ∈ insC i, u.oneCell' = true := by
  intro u hu
  simp only [insC, List.mem_cons, List.not_mem_nil, or_false] at hu
  rcases hu with rfl | rfl | rfl | rfl | rfl | rfl | rfl | rfl <;> rfl
theorem insInfo : (Tryd.prog.info? 60).map (fun i => (i.zero, i.size, i.bytes)) = some (some (.agg #[.int .i64 0, .int .i64 0, .int .i64 0, .int .i64 0, .int .i64 0, .int .i64 0, .int .u32 0, .int .i64 0]), 8, 64) := by kernel_rfl

/-- Element k of lists laid one behind the other, each as long. -/
theorem flat_at {α : Type} (f : α → List Value) (n : Nat) (hf : ∀ x, (f x).length = n) : ∀ (l : List α) (k j : Nat) (x : α), l[k]? = some x → j < n → (l.flatMap f)[k * n + j]? = (f x)[j]?
  | [], k, j, x, h, _ => by simp at h
  | y :: l, 0, j, x, h, hj => by
    simp at h
    subst h
    simp [List.getElem?_append, hf, hj]
  | y :: l, k + 1, j, x, h, hj => by
    have ih := flat_at f n hf l k j x (by simpa using h) hj
    rw [← ih]
    have e : (k + 1) * n + j = n + (k * n + j) := by rw [Nat.add_mul]; omega
    rw [e, List.flatMap_cons, List.getElem?_append_right (by rw [hf]; omega), hf]
    congr 1
    omega
theorem progC_at {l : List Ins} {k : Nat} {i : Ins} (h : l[k]? = some i) {j : Nat} (hj : j < 8) : (progC l)[k * 8 + j]? = (insC i)[j]? := flat_at insC 8 insC_len l k j i h hj

/-- The value v is a program; its instructions lie in a row of their own, at base or beyond. -/
def Pg (w : World) (base : Nat) (v : Value) (c : Prg) : Prop := ∃ sl, v = .agg #[sl, .int .i64 c.lo, .int .i64 c.un] ∧ w.ownsRow base 60 8 sl c.l.length (progC c.l)
end Go.Proofs.YthdgehcghklflaaDoor

/- inst.Right. -/
namespace Go.Proofs.YthdgehcghklflaaDoor
open Go.ChangeShapes Go.WideShapes Go.ChangeAt Go.RowKit
set_option linter.unusedVariables false

theorem run_eqI (i j : Ins) (w : World) : (binOp .eql 60 (iv i) (iv j)).run Tryd.prog w = .ok (.bool (eqI i j)) w := by
  unfold iv
  have hu := Tryd.underlying60
  go_simp
  unfold eqI
  repeat' split
  all_goals simp [*]

/-- Block g is the instruction i. -/
def Ib (w : World) (g : Nat) (i : Ins) : Prop := Bk w g 60 #[.int .i64 i.op, .int .i64 i.d, .int .i64 i.s, .int .i64 i.t, .int .i64 i.u, .int .i64 i.a, .int .u32 i.k, .int .i64 i.pl]
theorem Ib.cells {w : World} {g : Nat} {i : Ins} (h : Ib w g i) :
    w.cell? ⟨g, 0, none⟩ = some (.int .i64 i.op) ∧ w.cell? ⟨g, 1, none⟩ = some (.int .i64 i.d) ∧ w.cell? ⟨g, 2, none⟩ = some (.int .i64 i.s) ∧ w.cell? ⟨g, 3, none⟩ = some (.int .i64 i.t) ∧
    w.cell? ⟨g, 4, none⟩ = some (.int .i64 i.u) ∧ w.cell? ⟨g, 5, none⟩ = some (.int .i64 i.a) ∧ w.cell? ⟨g, 6, none⟩ = some (.int .u32 i.k) ∧ w.cell? ⟨g, 7, none⟩ = some (.int .i64 i.pl) :=
  ⟨Bk.cell h 0, Bk.cell h 1, Bk.cell h 2, Bk.cell h 3, Bk.cell h 4, Bk.cell h 5, Bk.cell h 6, Bk.cell h 7⟩
theorem Ib.below {w w' : World} {g : Nat} {i : Ins} (h : Ib w g i) (hb : Below w.heap.size w w') : Ib w' g i := (hb.block g (Bk.lt h)).trans h

theorem Ib.grw {w : World} {b : Nat} {i : Ins} (h : Ib w b i) :
    (∀ g : Grw w, g.x.cell? ⟨b, 0, none⟩ = some (.int .i64 i.op)) ∧ (∀ g : Grw w, g.x.cell? ⟨b, 1, none⟩ = some (.int .i64 i.d)) ∧ (∀ g : Grw w, g.x.cell? ⟨b, 2, none⟩ = some (.int .i64 i.s)) ∧ (∀ g : Grw w, g.x.cell? ⟨b, 3, none⟩ = some (.int .i64 i.t)) ∧
    (∀ g : Grw w, g.x.cell? ⟨b, 4, none⟩ = some (.int .i64 i.u)) ∧ (∀ g : Grw w, g.x.cell? ⟨b, 5, none⟩ = some (.int .i64 i.a)) ∧ (∀ g : Grw w, g.x.cell? ⟨b, 6, none⟩ = some (.int .u32 i.k)) ∧ (∀ g : Grw w, g.x.cell? ⟨b, 7, none⟩ = some (.int .i64 i.pl)) := by
  obtain ⟨c0, c1, c2, c3, c4, c5, c6, c7⟩ := h.cells
  exact ⟨fun g => g.cell c0, fun g => g.cell c1, fun g => g.cell c2, fun g => g.cell c3, fun g => g.cell c4, fun g => g.cell c5, fun g => g.cell c6, fun g => g.cell c7⟩

theorem Ib.made (w : World) (op d s t u a k pl : Int) : Ib (w.alloc (.cells #[.int .i64 op, .int .i64 d, .int .i64 s, .int .i64 t, .int .i64 u, .int .i64 a, .int .u32 k, .int .i64 pl] 60)) w.heap.size ⟨op, d, s, t, u, a, k, pl⟩ := Bk.made _ _ _
theorem boxed {w x : World} {op d s t u a k pl : Int} (h : Below (w.alloc (.cells #[.int .i64 op, .int .i64 d, .int .i64 s, .int .i64 t, .int .i64 u, .int .i64 a, .int .u32 k, .int .i64 pl] 60)).heap.size (w.alloc (.cells #[.int .i64 op, .int .i64 d, .int .i64 s, .int .i64 t, .int .i64 u, .int .i64 a, .int .u32 k, .int .i64 pl] 60)) x) : Ib x w.heap.size ⟨op, d, s, t, u, a, k, pl⟩ ∧ Below w.heap.size w x :=
  ⟨(Ib.made w op d s t u a k pl).below h, ((Below.refl _ _).alloc (Nat.le_refl _) _).trans (h.mono (by simp))⟩

/-- Block g is stored into, field by field. -/
def put8 (y : World) (g : Nat) (i : Ins) : World := ((((((((y.setCell ⟨g, 0, none⟩ (.int .i64 i.op)).setCell ⟨g, 1, none⟩ (.int .i64 i.d)).setCell ⟨g, 2, none⟩ (.int .i64 i.s)).setCell ⟨g, 3, none⟩ (.int .i64 i.t)).setCell ⟨g, 4, none⟩ (.int .i64 i.u)).setCell ⟨g, 5, none⟩ (.int .i64 i.a)).setCell ⟨g, 6, none⟩ (.int .u32 i.k)).setCell ⟨g, 7, none⟩ (.int .i64 i.pl))
theorem put8_ib {y : World} {g : Nat} {i j : Ins} (h : Ib y g j) : Ib (put8 y g i) g i := by
  have h8 := (((((((Bk.put h 0 (.int .i64 i.op)).put 1 (.int .i64 i.d)).put 2 (.int .i64 i.s)).put 3 (.int .i64 i.t)).put 4 (.int .i64 i.u)).put 5 (.int .i64 i.a)).put 6 (.int .u32 i.k)).put 7 (.int .i64 i.pl)
  unfold put8 Ib
  simpa only [List.setIfInBounds_toArray, List.set_cons_zero, List.set_cons_succ] using h8
theorem put8_off {y : World} {g b : Nat} {i : Ins} {t : TypeId} {cs : Array Value} (h : Bk y b t cs) (hne : b ≠ g) : Bk (put8 y g i) b t cs :=
  (((((((h.off hne _).off hne _).off hne _).off hne _).off hne _).off hne _).off hne _).off hne _
theorem put8_below {B : Nat} {w y : World} {g : Nat} {i : Ins} (h : Below B w y) (hg : B ≤ g) : Below B w (put8 y g i) :=
  (((((((h.setCell hg _).setCell hg _).setCell hg _).setCell hg _).setCell hg _).setCell hg _).setCell hg _).setCell hg _

theorem clr_snoc (i : Ins) (l : List UInt8) (n : Nat) (h : n < l.length) : clr i (l.take (n + 1)) = setI (clr i (l.take n)) (l.getD n 0).toNat 0 := by
  unfold clr
  rw [List.take_succ_eq_append_getElem h, List.foldl_append]
  simp [h]

theorem all_snoc (f : UInt8 → Bool) (l : List UInt8) (n : Nat) (h : n < l.length) : (l.take (n + 1)).all f = ((l.take n).all f && f (l.getD n 0)) := by
  rw [List.take_succ_eq_append_getElem h, List.all_append]
  simp [h]
theorem all_no (f : UInt8 → Bool) (l : List UInt8) (n : Nat) (h : n < l.length) (hf : f (l.getD n 0) = false) : l.all f = false := by
  rw [Bool.eq_false_iff]
  intro ha
  have := List.all_eq_true.1 ha (l.getD n 0) (by simp [h])
  rw [hf] at this
  cases this

/-- The world at the head of a round of Right. -/
structure RightAt (w : World) (i : Ins) (hs : List UInt8) (p : Int) (n : Nat) (x : World) : Prop where
  below : Below w.heap.size w x
  box : Ib x w.heap.size i
  left : Ib x (w.heap.size + 1) (clr i (hs.take n))
  ok : (hs.take n).all (fun c => inB i p c.toNat) = true

set_option maxHeartbeats 1000000 in
theorem cRight (i : Ins) (p : Int) (k0 : 0 ≤ i.k) (k1 : i.k < 4294967296) (w : World) :
    Calls Tryd.prog 43 #[iv i, .int .i64 p] w fun e w' => e = .returned (.bool (rightB i p)) ∧ Below w.heap.size w w' := by
  have hL := hs_ltr i.op
  have h6 := hs_len i.op
  have ER : rightB i p = (!(hsL i.op).isEmpty && ((hsL i.op).all (fun c => inB i p c.toNat) && isZ (clr i (hsL i.op)))) := rfl
  have H0 := Lib.hid (cForm i.op)
  generalize hsL i.op = hs at hL h6 ER H0
  have HL := Lib.hid hL
  have HR := Lib.hid ER
  clear hL ER
  obtain ⟨op, d, s, t, u, a, k, pl⟩ := i
  simp only at k0 k1 H0
  unfold iv
  go_enter Tryd.func43, Tryd.ntmps43
  go_wp2_with fail
  refine (H0.out _).mono ?_
  rintro e w' ⟨rfl, rfl⟩
  unfold bs
  by_cases he : hs = []
  · subst he
    go_wp2
    go_ret
    exact ⟨ret_bool HR.out.symm, (Below.refl _ _).alloc (Nat.le_refl _) _⟩
  have hne : hs.isEmpty = false := by simpa using he
  go_wp2
  go_loopw [24] (fun v x => ∃ n : Nat, n ≤ hs.length ∧ v = .int .i64 n ∧ RightAt w ⟨op, d, s, t, u, a, k, pl⟩ hs p n x) (fun v _ => hs.length - (intOf v).toNat)
  case atStart => 
    refine ⟨0, Nat.zero_le _, rfl, ?_, ?_, ?_, rfl⟩
    · exact (((Below.refl _ _).alloc (Nat.le_refl _) _).alloc (by simp) _)
    · exact (Bk.made _ _ _).alloc _
    · have := Bk.made (w.alloc (.cells #[.int .i64 op, .int .i64 d, .int .i64 s, .int .i64 t, .int .i64 u, .int .i64 a, .int .u32 k, .int .i64 pl] 60)) 60 #[.int .i64 0, .int .i64 d, .int .i64 s, .int .i64 t, .int .i64 u, .int .i64 a, .int .u32 k, .int .i64 pl]
      rw [show (w.alloc (.cells #[.int .i64 op, .int .i64 d, .int .i64 s, .int .i64 t, .int .i64 u, .int .i64 a, .int .u32 k, .int .i64 pl] 60)).heap.size = w.heap.size + 1 by simp] at this
      exact this
  case round =>
    obtain ⟨n, hn, rfl, R⟩ := hrel
    obtain ⟨hb, hI, hZ, hok⟩ := R
    generalize wr = x at *
    have hlt1 : w.heap.size < x.heap.size := Bk.lt hI
    have hlt2 : w.heap.size + 1 < x.heap.size := Bk.lt hZ
    by_cases hlt : n < hs.length
    · have hidx := run_ltr hs n hlt
      have hc : Ltr ((hs.getD n 0).toNat : Int) := HL.out _ (by simp [hlt])
      generalize hcc : ((hs.getD n 0).toNat : Int) = c at hidx hc
      obtain ⟨g0, -⟩ := hI.grw
      have HC := Lib.hid hcc
      clear hcc
      go_wp2_with fail
      refine wp_region_grow (by kernel_rfl) (by kernel_rfl) ?_
      repeat (go_big_quiet_step ((go_at_call 51; exact grw_same (cBounds _ _ _ hc _))))
      refine wpQuiet_nil ?_
      rintro y ⟨⟨_, hy⟩, rfl⟩
      replace hb := hb.trans (hy.mono (Nat.le_of_lt hlt1))
      replace hI := hI.below hy
      replace hZ := hZ.below hy
      replace hlt1 : w.heap.size < y.heap.size := Bk.lt hI
      replace hlt2 : w.heap.size + 1 < y.heap.size := Bk.lt hZ
      clear g0 hy x
      obtain ⟨g0, g1, g2, g3, g4, g5, g6, g7⟩ := hI.grw
      simp only at g0 g1 g2 g3 g4 g5 g6 g7
      go_wp2_with fail
      refine wp_region_grow (by kernel_rfl) (by kernel_rfl) ?_
      repeat (go_big_quiet_step ((go_at_call 52; exact grw_call (cGet ⟨op, d, s, t, u, a, k, pl⟩ _ hc k0 k1 _))))
      refine wpQuiet_nil ?_
      rintro x ⟨⟨_, hx⟩, rfl⟩
      replace hb := hb.trans (hx.mono (Nat.le_of_lt hlt1))
      replace hI := hI.below hx
      replace hZ := hZ.below hx
      replace hlt1 : w.heap.size < x.heap.size := Bk.lt hI
      replace hlt2 : w.heap.size + 1 < x.heap.size := Bk.lt hZ
      clear g0 g1 g2 g3 g4 g5 g6 g7 hx y
      by_cases hlo : getI ⟨op, d, s, t, u, a, k, pl⟩ c < lowI op c
      · go_wp2
        go_ret
        refine ⟨ret_bool ?_, hb⟩
        rw [HR.out, all_no _ _ n hlt (by rw [HC.out]; simp [inB]; intro h; omega)]; simp
      have hlo' : decide (getI ⟨op, d, s, t, u, a, k, pl⟩ c < lowI op c) = false := by simpa using hlo
      by_cases hhi : endI op c p ≤ getI ⟨op, d, s, t, u, a, k, pl⟩ c
      · go_wp2
        go_ret
        refine ⟨ret_bool ?_, hb⟩
        rw [HR.out, all_no _ _ n hlt (by rw [HC.out]; simp [inB]; intro h; omega)]; simp
      have hhi' : decide (getI ⟨op, d, s, t, u, a, k, pl⟩ c ≥ endI op c p) = false := by simpa using hhi
      generalize hZZ : clr ⟨op, d, s, t, u, a, k, pl⟩ (hs.take n) = z at hZ
      have HZ := Lib.hid hZZ
      clear hZZ
      obtain ⟨zop, zd, zs, zt, zu, za, zk, zpl⟩ := z
      obtain ⟨c0, c1, c2, c3, c4, c5, c6, c7⟩ := hZ.cells
      simp only at c0 c1 c2 c3 c4 c5 c6 c7
      go_wp2_with fail
      go_region_law (first | (go_simp; go_at_call 40; refine (cSet ⟨zop, zd, zs, zt, zu, za, zk, zpl⟩ _ 0 hc _).mono ?_; rintro e y ⟨rfl, hy⟩; replace hy := below_of_drew hy; obtain ⟨d0, d1, d2, d3, d4, d5, d6, d7⟩ := (hZ.below hy).cells; have hf := Bk.free (hZ.below hy); generalize hz2 : setI ⟨zop, zd, zs, zt, zu, za, zk, zpl⟩ c 0 = z2; have HZ2 := Lib.hid hz2; clear hz2; obtain ⟨yop, yd, ys, yt, yu, ya, yk, ypl⟩ := z2; unfold iv))
      all_goals
        generalize hv : ((((((((y.setCell ⟨w.heap.size + 1, 0, none⟩ (.int .i64 yop)).setCell ⟨w.heap.size + 1, 1, none⟩ (.int .i64 yd)).setCell ⟨w.heap.size + 1, 2, none⟩ (.int .i64 ys)).setCell ⟨w.heap.size + 1, 3, none⟩ (.int .i64 yt)).setCell ⟨w.heap.size + 1, 4, none⟩ (.int .i64 yu)).setCell ⟨w.heap.size + 1, 5, none⟩ (.int .i64 ya)).setCell ⟨w.heap.size + 1, 6, none⟩ (.int .u32 yk)).setCell ⟨w.heap.size + 1, 7, none⟩ (.int .i64 ypl)) = v
        have hv2 : put8 y (w.heap.size + 1) ⟨yop, yd, ys, yt, yu, ya, yk, ypl⟩ = v := hv
        clear hv
        have hA := put8_ib (i := ⟨yop, yd, ys, yt, yu, ya, yk, ypl⟩) (hZ.below hy)
        have hB := put8_off (i := ⟨yop, yd, ys, yt, yu, ya, yk, ypl⟩) (hI.below hy) (show w.heap.size ≠ w.heap.size + 1 by omega)
        have hC := put8_below (i := ⟨yop, yd, ys, yt, yu, ya, yk, ypl⟩) (hb.trans (hy.mono (Nat.le_of_lt hlt1))) (show w.heap.size ≤ w.heap.size + 1 by omega)
        rw [hv2] at hA hB hC
        clear hv2 d0 d1 d2 d3 d4 d5 d6 d7 hf c0 c1 c2 c3 c4 c5 c6 c7 hidx
        have hn1 : (n : Int) + 1 ≤ 6 := by omega
        go_wp2
        go_roundw
        case rel =>
          refine ⟨n + 1, by omega, by go_num, hC, hB, ?_, ?_⟩
          · rw [clr_snoc _ _ _ hlt, HZ.out, HC.out, HZ2.out]; exact hA
          · rw [all_snoc _ _ _ hlt, HC.out, hok]; simp [inB]; omega
        case measure => simp [intOf]; omega
    · obtain rfl : n = hs.length := by omega
      generalize hZZ : clr ⟨op, d, s, t, u, a, k, pl⟩ (hs.take hs.length) = z at hZ
      obtain ⟨zop, zd, zs, zt, zu, za, zk, zpl⟩ := z
      obtain ⟨c0, c1, c2, c3, c4, c5, c6, c7⟩ := hZ.cells
      simp only at c0 c1 c2 c3 c4 c5 c6 c7
      rw [List.take_length] at hZZ hok
      have HZ := Lib.hid hZZ
      have HO := Lib.hid hok
      clear hZZ hok
      have hq := run_eqI ⟨zop, zd, zs, zt, zu, za, zk, zpl⟩ Ins.zero
      generalize hB : eqI ⟨zop, zd, zs, zt, zu, za, zk, zpl⟩ Ins.zero = B at hq
      have HB := Lib.hid hB
      clear hB
      unfold iv Ins.zero at hq
      simp only at hq
      go_wp2
      go_ret
      refine ⟨ret_bool ?_, hb⟩
      rw [HR.out, HO.out, HZ.out, isZ_eq, HB.out, hne]; rfl
end Go.Proofs.YthdgehcghklflaaDoor

/- Texts, their words, their digits. No walk stands here. -/
namespace Go.Proofs.YthdgehcghklflaaDoor
set_option linter.unusedVariables false

def Nl (s : List UInt8) : Prop := ∀ c ∈ s, c ≠ 10
theorem Nl.app {a b : List UInt8} (ha : Nl a) (hb : Nl b) : Nl (a ++ b) := fun c hc => by
  rcases List.mem_append.1 hc with h | h
  · exact ha c h
  · exact hb c h
/-- No blank. -/
def Bf (l : List UInt8) : Prop := ∀ c ∈ l, c ≠ 32

theorem blank_or : ∀ s : List UInt8, Bf s ∨ ∃ t r, Bf t ∧ s = t ++ 32 :: r
  | [] => .inl (by intro c h; cases h)
  | c :: s => by
    by_cases h : c = 32
    · exact .inr ⟨[], s, (by intro c h; cases h), (by rw [h]; rfl)⟩
    · rcases blank_or s with h1 | ⟨t, r, h1, rfl⟩
      · exact .inl (by intro d hd; rcases List.mem_cons.1 hd with rfl | hd; exact h; exact h1 d hd)
      · exact .inr ⟨c :: t, r, (by intro d hd; rcases List.mem_cons.1 hd with rfl | hd; exact h; exact h1 d hd), rfl⟩
theorem index_bf : ∀ t : List UInt8, Bf t → Lib.index t [32] = -1
  | [], _ => by simp [Lib.index]
  | c :: t, h => by
    have h1 := index_bf t fun d hd => h d (List.mem_cons_of_mem _ hd)
    have h2 : c ≠ 32 := h c List.mem_cons_self
    unfold Lib.index
    rw [if_neg (by simp [List.isPrefixOf]; exact fun e => h2 e.symm), h1]
    rfl
theorem index_at : ∀ (t r : List UInt8), Bf t → Lib.index (t ++ 32 :: r) [32] = t.length
  | [], r, _ => by simp [Lib.index, List.isPrefixOf]
  | c :: t, r, h => by
    have h1 := index_at t r fun d hd => h d (List.mem_cons_of_mem _ hd)
    have h2 : c ≠ 32 := h c List.mem_cons_self
    show Lib.index (c :: (t ++ 32 :: r)) [32] = _
    unfold Lib.index
    rw [if_neg (by simp [List.isPrefixOf]; exact fun e => h2 e.symm), h1, if_neg (by simp <;> omega)]
    simp
/-- Words, with a blank ahead of each but the first. -/
def joinL (w0 : List UInt8) (ws : List (List UInt8)) : List UInt8 := w0 ++ ws.flatMap fun w => 32 :: w
theorem words_join : ∀ (ws : List (List UInt8)) (w0 : List UInt8), Bf w0 → (∀ w ∈ ws, Bf w) → wordsL (joinL w0 ws) = w0 :: ws
  | [], w0, h, _ => by unfold joinL; simp; exact wordsL_one w0 h
  | w :: ws, w0, h, hs => by
    have ih := words_join ws w (hs w List.mem_cons_self) fun v hv => hs v (List.mem_cons_of_mem _ hv)
    unfold joinL at *
    simp only [List.flatMap_cons, List.cons_append]
    rw [wordsL_more w0 _ h, ih]

theorem dec_digit : ∀ (n : Nat), ∀ c ∈ Lib.decDigits n, 48 ≤ c.toNat ∧ c.toNat ≤ 57 := by
  intro n
  induction n using Nat.strongRecOn with
  | _ n ih =>
    intro c hc
    rw [Lib.decDigits] at hc
    by_cases h : n < 10
    · rw [dif_pos h] at hc
      obtain rfl := List.mem_singleton.1 hc
      rw [UInt8.toNat_ofNat', Nat.mod_eq_of_lt (by omega)]
      omega
    · rw [dif_neg h] at hc
      rcases List.mem_append.1 hc with hc | hc
      · exact ih (n / 10) (by omega) c hc
      · obtain rfl := List.mem_singleton.1 hc
        rw [UInt8.toNat_ofNat', Nat.mod_eq_of_lt (by omega)]
        omega
theorem dec_bf (n : Nat) : Bf (Lib.decDigits n) := by
  intro c hc e
  have := dec_digit n c hc
  rw [e] at this
  exact absurd this (by decide)
theorem dec_cons (n : Nat) : ∃ c r, Lib.decDigits n = c :: r ∧ 48 ≤ c.toNat ∧ c.toNat ≤ 57 ∧ (10 ≤ n → 49 ≤ c.toNat) := by
  induction n using Nat.strongRecOn with
  | _ n ih =>
    rw [Lib.decDigits]
    by_cases h : n < 10
    · rw [dif_pos h]
      refine ⟨_, [], rfl, ?_⟩
      rw [UInt8.toNat_ofNat', Nat.mod_eq_of_lt (by omega)]
      omega
    · rw [dif_neg h]
      obtain ⟨c, r, e, h1, h2, h3⟩ := ih (n / 10) (by omega)
      rw [e]
      refine ⟨c, _, rfl, h1, h2, fun _ => ?_⟩
      by_cases h9 : 10 ≤ n / 10
      · exact h3 h9
      · rw [Lib.decDigits, dif_pos (by omega)] at e
        injection e with e1 _
        rw [← e1, UInt8.toNat_ofNat', Nat.mod_eq_of_lt (by omega)]
        omega
theorem parse_app : ∀ (a b : List UInt8) (acc u : Nat), Lib.parseUint10 acc a = .ok u → Lib.parseUint10 acc (a ++ b) = Lib.parseUint10 u b
  | [], b, acc, u, h => by simp [Lib.parseUint10] at h; subst h; rfl
  | c :: a, b, acc, u, h => by
    simp only [Lib.parseUint10, List.cons_append] at h ⊢
    split at h
    · split at h
      · cases h
      · split at h
        · cases h
        · rename_i h1 h2 h3
          rw [if_pos h1, if_neg h2, if_neg h3]
          exact parse_app a b _ u h
    · cases h
theorem parse_dec : ∀ (n : Nat), n < 18446744073709551616 → Lib.parseUint10 0 (Lib.decDigits n) = .ok n := by
  intro n
  induction n using Nat.strongRecOn with
  | _ n ih =>
    intro hn
    rw [Lib.decDigits]
    by_cases h : n < 10
    · rw [dif_pos h]
      have e : (UInt8.ofNat (48 + n)).toNat = 48 + n := by rw [UInt8.toNat_ofNat', Nat.mod_eq_of_lt (by omega)]
      simp only [Lib.parseUint10, e]
      rw [if_pos (by omega), if_neg (by omega), if_neg (by omega)]
      congr 1
      omega
    · rw [dif_neg h, parse_app _ _ _ _ (ih (n / 10) (by omega) (by omega))]
      have e : (UInt8.ofNat (48 + n % 10)).toNat = 48 + n % 10 := by rw [UInt8.toNat_ofNat', Nat.mod_eq_of_lt (by omega)]
      simp only [Lib.parseUint10, e]
      rw [if_pos (by omega), if_neg (by omega), if_neg (by omega)]
      congr 1
      omega
theorem atoi_dec (n : Nat) (h : n < 9223372036854775808) : Lib.atoiAll (Lib.decDigits n) = .ok n := by
  obtain ⟨c, r, e, h1, h2, -⟩ := dec_cons n
  have hp := parse_dec n (by omega)
  rw [e] at hp ⊢
  unfold Lib.atoiAll Lib.parseMag
  simp only
  rw [if_neg (show ¬ (c.toNat = 43 ∨ c.toNat = 45) by omega), if_neg (by simp), hp]
  simp only
  rw [if_neg (by omega), if_neg (by omega), if_neg (by omega)]

end Go.Proofs.YthdgehcghklflaaDoor

/- The document's instructions: Ref, Name, reg. -/
namespace Go.Proofs.YthdgehcghklflaaDoor
open Go.ChangeShapes Go.WideShapes Go.ChangeAt Go.RowKit
set_option linter.unusedVariables false

theorem rRef (i : Ins) (w : World) :
    Calls Tryd.prog 15 #[iv i] w fun e w' => e = .returned (iv i) ∧ Below w.heap.size w w' := by
  obtain ⟨op, d, s, t, u, a, k, pl⟩ := i
  unfold iv
  go_enter Tryd.func15, Tryd.ntmps15
  go_wp2
  refine bodyPost_ret (v := .agg #[.int .i64 op, .int .i64 d, .int .i64 s, .int .i64 t, .int .i64 u, .int .i64 a, .int .u32 k, .int .i64 pl]) (by simp [results, Tryd.results15, go_sem]) rfl ⟨rfl, ?_⟩
  exact ((Below.refl _ _).alloc (Nat.le_refl _) _).alloc (by simp) _

end Go.Proofs.YthdgehcghklflaaDoor

/- The ticket lock's text and program. -/
namespace Go.Proofs.YthdgehcghklflaaDoor
set_option linter.unusedVariables false

/-- Its text. -/
def tkText : List UInt8 := [108, 111, 99, 107, 58, 10, 102, 97, 100, 100, 32, 114, 49, 32, 48, 32, 114, 48, 32, 49, 10, 109, 97, 114, 107, 32, 49, 10, 97, 119, 97, 105, 116, 32, 114, 50, 32, 49, 32, 114, 48, 32, 101, 113, 32, 114, 49, 10, 109, 97, 114, 107, 32, 50, 10, 100, 111, 110, 101, 32, 49, 10, 117, 110, 108, 111, 99, 107, 58, 10, 97, 100, 100, 107, 32, 114, 49, 32, 114, 49, 32, 49, 10, 115, 116, 111, 114, 101, 32, 49, 32, 114, 48, 32, 114, 49, 10, 109, 97, 114, 107, 32, 52, 10, 100, 111, 110, 101, 32, 50, 10]
def tkP : Prg := ⟨tkL, 0, 5⟩
theorem tk_small : tkText.length < 80000 := by decide
/-- The last registers. -/
def tkR (n : Nat) : List Int := List.replicate n 0
end Go.Proofs.YthdgehcghklflaaDoor

/- InstC, InstD, InstE, InstF, InstG, one behind the other. -/
/- inst.part. -/
namespace Go.Proofs.YthdgehcghklflaaDoor
open Go.ChangeShapes Go.WideShapes Go.ChangeAt Go.RowKit
set_option linter.unusedVariables false

/-- What partOfK answers. -/
def kL (i : Ins) (l : List UInt8) : List UInt8 := if i.op = 21 then (if i.k = 0 then [32, 101, 113] else [32, 110, 101]) else 32 :: l
def placeS (i : Ins) (l : List UInt8) : List UInt8 := if i.op = 21 then (if i.pl = -1 then [] else [32, 101, 108, 115, 101, 32] ++ l) else 32 :: l

theorem cPartK (i : Ins) (l : List UInt8) (hl : l.length < 100000) (w : World) :
    Calls Tryd.prog 54 #[iv i, bs l] w fun e w' => e = .returned (bs (kL i l)) ∧ Below w.heap.size w w' := by
  obtain ⟨op, d, s, t, u, a, k, pl⟩ := i
  unfold iv bs
  have E : kL ⟨op, d, s, t, u, a, k, pl⟩ l = (if op = 21 then (if k = 0 then [32, 101, 113] else [32, 110, 101]) else 32 :: l) := rfl
  by_cases h : op = 21
  · subst h
    by_cases hk : k = 0
    · subst hk
      have HE := Lib.hid E
      clear E
      go_enter Tryd.func54, Tryd.ntmps54
      go_wp2
      go_ret
      exact ⟨ret_bs HE.out.symm, (Below.refl _ _).alloc (Nat.le_refl _) _⟩
    · have hk2 : (k == 0) = false := by simpa using hk
      rw [if_pos rfl, if_neg hk] at E
      have HE := Lib.hid E
      clear E hk
      go_enter Tryd.func54, Tryd.ntmps54
      go_wp2
      go_ret
      exact ⟨ret_bs HE.out.symm, (Below.refl _ _).alloc (Nat.le_refl _) _⟩
  · have h1 : (op != 21) = true := by simpa using h
    have h2 : (op == 21) = false := by simpa using h
    rw [if_neg h] at E
    have HE := Lib.hid E
    have hc := run_cat [32] l (by simp; omega)
    clear E h
    go_enter Tryd.func54, Tryd.ntmps54
    go_wp2
    go_ret
    exact ⟨ret_bs HE.out.symm, (Below.refl _ _).alloc (Nat.le_refl _) _⟩

theorem cPartPlace (i : Ins) (l : List UInt8) (hl : l.length < 100000) (w : World) :
    Calls Tryd.prog 55 #[iv i, bs l] w fun e w' => e = .returned (bs (placeS i l)) ∧ Below w.heap.size w w' := by
  obtain ⟨op, d, s, t, u, a, k, pl⟩ := i
  unfold iv bs
  have E : placeS ⟨op, d, s, t, u, a, k, pl⟩ l = (if op = 21 then (if pl = -1 then [] else [32, 101, 108, 115, 101, 32] ++ l) else 32 :: l) := rfl
  by_cases h : op = 21
  · subst h
    by_cases hk : pl = -1
    · subst hk
      have HE := Lib.hid E
      clear E
      go_enter Tryd.func55, Tryd.ntmps55
      go_wp2
      go_ret
      exact ⟨ret_bs HE.out.symm, (Below.refl _ _).alloc (Nat.le_refl _) _⟩
    · have hk2 : (pl == -1) = false := by simpa using hk
      rw [if_pos rfl, if_neg hk] at E
      have HE := Lib.hid E
      have hc := run_cat [32, 101, 108, 115, 101, 32] l (by simp; omega)
      clear E hk
      go_enter Tryd.func55, Tryd.ntmps55
      go_wp2
      go_ret
      exact ⟨ret_bs HE.out.symm, (Below.refl _ _).alloc (Nat.le_refl _) _⟩
  · have h1 : (op != 21) = true := by simpa using h
    have h2 : (op == 21) = false := by simpa using h
    rw [if_neg h] at E
    have HE := Lib.hid E
    have hc := run_cat [32] l (by simp; omega)
    clear E h
    go_enter Tryd.func55, Tryd.ntmps55
    go_wp2
    go_ret
    exact ⟨ret_bs HE.out.symm, (Below.refl _ _).alloc (Nat.le_refl _) _⟩

theorem part_eq (i : Ins) (c : Int) (hc : Ltr c) : partL i c = (if c = 65 then 32 :: Lib.itoa (getI i c) else if c = 75 then kL i (Lib.itoa (getI i c)) else if c = 80 then placeS i (Lib.itoa (getI i c)) else [32, 114] ++ Lib.itoa (getI i c)) := by
  rcases hc with rfl | rfl | rfl | rfl | rfl | rfl | rfl <;> rfl

/-- What a letter stands for fits an int. -/
theorem get_fits (i : Ins) (h : i.Wf) (c : Int) : -9223372036854775808 ≤ getI i c ∧ getI i c ≤ 9223372036854775807 := by
  obtain ⟨h1, h2, h3, h4, h5, h6, h7, h8, h9, h10, h11, h12, h13, h14, h15, h16⟩ := h
  unfold getI
  repeat' split
  all_goals omega

theorem cPart (i : Ins) (h : i.Wf) (c : Int) (hc : Ltr c) (w : World) (L : Lb w) :
    Calls Tryd.prog 44 #[iv i, .int .u8 c] w fun e w' => e = .returned (bs (partL i c)) ∧ Below w.heap.size w w' := by
  obtain ⟨g0, g1⟩ := get_fits i h c
  have HG := Lib.hid (fun W => cGet i c hc h.k0 h.k1 W)
  have hil := itoa_len _ g0 g1
  have HI := Lib.hid (fun W LW => lItoa (getI i c) g0 g1 W LW)
  have E := part_eq i c hc
  have HK := Lib.hid (fun W => cPartK i (Lib.itoa (getI i c)) (by omega) W)
  have HP := Lib.hid (fun W => cPartPlace i (Lib.itoa (getI i c)) (by omega) W)
  generalize Lib.itoa (getI i c) = l at *
  generalize getI i c = v at *
  have c1 := run_cat [32] l (by simp; omega)
  have c2 := run_cat [32, 114] l (by simp; omega)
  have HE := Lib.hid E
  clear E
  generalize partL i c = pp at *
  obtain ⟨op, d, s, t, u, a, k, pl⟩ := i
  unfold iv
  rcases hc with rfl | rfl | rfl | rfl | rfl | rfl | rfl
  all_goals
    go_enter Tryd.func44, Tryd.ntmps44
    go_wp2_with fail
    refine (HG.out _).mono ?_
    rintro e x ⟨rfl, hx⟩
    obtain ⟨hIb, hb⟩ := boxed hx
    have hlt : w.heap.size < x.heap.size := Bk.lt hIb
    clear hx
    go_wp2_with fail
    refine (HI.out _ (L.below hb)).mono ?_
    rintro e y ⟨rfl, hy⟩
    replace hIb := hIb.below hy
    replace hb := hb.trans (hy.mono (Nat.le_of_lt hlt))
    clear hy hlt
    obtain ⟨c0, c1, c2, c3, c4, c5, c6, c7⟩ := hIb.cells
    simp only at c0 c1 c2 c3 c4 c5 c6 c7
    unfold bs
    first
      | (go_wp2_with fail
         refine (HK.out _).mono ?_
         rintro e z ⟨rfl, hz⟩
         go_wp2
         go_ret
         exact ⟨by rw [HE.out]; rfl, hb.trans (hz.mono hb.size)⟩)
      | (go_wp2_with fail
         refine (HP.out _).mono ?_
         rintro e z ⟨rfl, hz⟩
         go_wp2
         go_ret
         exact ⟨by rw [HE.out]; rfl, hb.trans (hz.mono hb.size)⟩)
      | (go_wp2
         go_ret
         exact ⟨by rw [HE.out]; rfl, hb⟩)
end Go.Proofs.YthdgehcghklflaaDoor

/- inst.Text. -/
namespace Go.Proofs.YthdgehcghklflaaDoor
open Go.ChangeShapes Go.WideShapes Go.ChangeAt Go.RowKit
set_option linter.unusedVariables false

theorem partS_len (i : Ins) (h : i.Wf) (c : Int) (hc : Ltr c) : (partL i c).length ≤ 40 := by
  obtain ⟨g0, g1⟩ := get_fits i h c
  have hl := itoa_len _ g0 g1
  rw [part_eq i c hc]
  generalize Lib.itoa (getI i c) = l at *
  unfold kL placeS
  repeat' split
  all_goals (simp; try omega)
theorem nm_len (op : Int) : (nmL op).length ≤ 5 := by
  rcases op_cases op with rfl | rfl | rfl | rfl | rfl | rfl | rfl | rfl | rfl | rfl | rfl | rfl | rfl | rfl | rfl | rfl | rfl | rfl | rfl | rfl | rfl | hn
  all_goals first | decide | (rw [(hs_none hn).2]; decide)
theorem parts_snoc (i : Ins) (l : List UInt8) (n : Nat) (h : n < l.length) : partsL i (l.take (n + 1)) = partsL i (l.take n) ++ partL i (l.getD n 0).toNat := by
  unfold partsL
  rw [List.take_succ_eq_append_getElem h, List.flatMap_append]
  simp [h]
theorem parts_len (i : Ins) (h : i.Wf) (l : List UInt8) (hl : ∀ c ∈ l, Ltr c.toNat) : (partsL i l).length ≤ 40 * l.length := by
  induction l with
  | nil => simp [partsL]
  | cons c l ih =>
    have h1 := ih fun c hc => hl c (List.mem_cons_of_mem _ hc)
    have h2 := partS_len i h c.toNat (hl c List.mem_cons_self)
    unfold partsL at *
    simp only [List.flatMap_cons, List.length_append, List.length_cons]
    omega

/-- What Text answers. -/
def textV (i : Ins) : Value := if rightB i 1073741824 = true then .tuple #[bs (textL i), .int .i64 0] else .tuple #[bs [], .int .i64 1]

set_option maxHeartbeats 1000000 in
theorem cText (i : Ins) (h : i.Wf) (w : World) (L : Lb w) :
    Calls Tryd.prog 35 #[iv i] w fun e w' => e = .returned (textV i) ∧ Below w.heap.size w w' := by
  have HR := Lib.hid (fun W => cRight i 1073741824 h.k0 h.k1 W)
  have HF := Lib.hid (cForm i.op)
  have hL := hs_ltr i.op
  have h6 := hs_len i.op
  have h5 := nm_len i.op
  have E : textV i = if rightB i 1073741824 = true then .tuple #[bs (nmL i.op ++ partsL i (hsL i.op)), .int .i64 0] else .tuple #[bs [], .int .i64 1] := rfl
  have HP := Lib.hid (fun c hc W LW => cPart i h c hc W LW)
  have HPL := Lib.hid (fun l hl => parts_len i h l hl)
  have HQL := Lib.hid (fun c hc => partS_len i h c hc)
  generalize textV i = tv at *
  generalize hsL i.op = hs at *
  generalize nmL i.op = nm at *
  have HL := Lib.hid hL
  clear hL
  obtain ⟨op, d, s, t, u, a, k, pl⟩ := i
  cases hr : rightB ⟨op, d, s, t, u, a, k, pl⟩ 1073741824 with
  | false =>
    rw [hr] at E HR
    have HE := Lib.hid E
    clear E hr
    unfold iv
    go_enter Tryd.func35, Tryd.ntmps35
    go_wp2_with fail
    refine (HR.out _).mono ?_
    rintro e x ⟨rfl, hx⟩
    obtain ⟨hIb, hb⟩ := boxed hx
    go_wp2
    go_ret2
    exact ⟨by rw [HE.out]; rfl, hb⟩
  | true =>
    rw [hr] at E HR
    have HE := Lib.hid E
    clear E hr
    unfold iv
    go_enter Tryd.func35, Tryd.ntmps35
    go_wp2_with fail
    refine (HR.out _).mono ?_
    rintro e x ⟨rfl, hx⟩
    obtain ⟨hIb, hb⟩ := boxed hx
    clear hx
    obtain ⟨c0, -⟩ := hIb.cells
    simp only at c0
    go_wp2_with fail
    refine (HF.out _).mono ?_
    rintro e w' ⟨rfl, rfl⟩
    unfold bs
    go_wp2
    go_loopw [4, 18] (fun tx v x => ∃ n : Nat, n ≤ hs.length ∧ v = .int .i64 n ∧ tx = bs (nm ++ partsL ⟨op, d, s, t, u, a, k, pl⟩ (hs.take n)) ∧ Below w.heap.size w x ∧ Ib x w.heap.size ⟨op, d, s, t, u, a, k, pl⟩) (fun _ v _ => hs.length - (intOf v).toNat)
    case atStart => exact ⟨0, Nat.zero_le _, rfl, by simp [partsL, bs], hb, hIb⟩
    case round =>
      clear c0
      clear hb hIb
      obtain ⟨n, hn, rfl, rfl, hb, hIb⟩ := hrel
      have hlt1 : w.heap.size < wr.heap.size := Bk.lt hIb
      by_cases hlt : n < hs.length
      · have hidx := run_ltr hs n hlt
        have hc : Ltr ((hs.getD n 0).toNat : Int) := HL.out _ (by simp [hlt])
        have hsn := parts_snoc ⟨op, d, s, t, u, a, k, pl⟩ hs n hlt
        have hpl := HPL.out (hs.take n) (fun c hc => HL.out c (List.mem_of_mem_take hc))
        have hpl2 : (hs.take n).length ≤ 6 := by simp; omega
        generalize ((hs.getD n 0).toNat : Int) = c at hidx hc hsn
        have hql := HQL.out c hc
        generalize partsL ⟨op, d, s, t, u, a, k, pl⟩ (hs.take n) = ps at *
        generalize hpp : partL ⟨op, d, s, t, u, a, k, pl⟩ c = pp at *
        have hsz : ¬ 9223372036854775807 < (nm ++ ps).length + pp.length := by simp; omega
        have hcat := cat_bs (nm ++ ps) pp
        generalize htp : nm ++ ps ++ pp = tp at hcat
        have HTP := Lib.hid htp
        clear htp
        generalize htx : nm ++ ps = tx at *
        have HTX := Lib.hid htx
        clear htx
        have HPP := Lib.hid hpp
        have HSN := Lib.hid hsn
        clear hpp hsn hpl hpl2 hql
        have HP2 := Lib.hid (show ∀ g : Grw wr, Calls Tryd.prog 44 #[iv ⟨op, d, s, t, u, a, k, pl⟩, .int .u8 c] g.x fun e w' => e = .returned (.string ⟨pp.toArray⟩) ∧ Below g.x.heap.size g.x w' from fun g => by
          have hp := HP.out c hc g.x ((L.below hb).grw g)
          rw [HPP.out] at hp
          exact hp)
        obtain ⟨g0, g1, g2, g3, g4, g5, g6, g7⟩ := hIb.grw
        simp only at g0 g1 g2 g3 g4 g5 g6 g7
        unfold bs
        go_wp2_with fail
        refine wp_region_grow (by kernel_rfl) (by kernel_rfl) ?_
        repeat (go_big_quiet_step ((go_at_call 44; exact grw_call (HP2.out _))))
        refine wpQuiet_nil ?_
        rintro y ⟨⟨_, hy⟩, rfl⟩
        replace hb := hb.trans (hy.mono (Nat.le_of_lt hlt1))
        replace hIb := hIb.below hy
        clear g0 g1 g2 g3 g4 g5 g6 g7 hy hidx hcat hsz HP2
        have hn1 : (n : Int) + 1 ≤ 6 := by omega
        go_wp2
        go_roundw
        case rel => exact ⟨n + 1, by omega, by go_num, by rw [HSN.out, ← List.append_assoc, HTX.out, HTP.out], hb, hIb⟩
        case measure => simp [intOf]; omega
      · obtain rfl : n = hs.length := by omega
        rw [List.take_length]
        go_wp2
        go_ret2
        exact ⟨by rw [HE.out]; rfl, hb⟩
end Go.Proofs.YthdgehcghklflaaDoor

/- inst.opNamed, inst.valueAt. -/
namespace Go.Proofs.YthdgehcghklflaaDoor
open Go.ChangeShapes Go.WideShapes Go.ChangeAt Go.RowKit
set_option linter.unusedVariables false

theorem opFrom_succ (w : List UInt8) (n : Nat) (k : Int) : opFrom w (n + 1) k = if (hsL k).isEmpty = false ∧ nmL k = w then k else opFrom w n (k + 1) := rfl

theorem cOpNamed (s : List UInt8) (w : World) :
    Calls Tryd.prog 38 #[bs s] w fun e w' => e = .returned (.int .i64 (opN s)) ∧ w = w' := by
  have HE := Lib.hid (show opN s = opFrom s 23 1 from rfl)
  generalize opN s = r at *
  unfold bs
  go_enter Tryd.func38, Tryd.ntmps38
  go_wp2
  go_loop [3] (fun v => ∃ k : Nat, 1 ≤ k ∧ k ≤ 24 ∧ v = .int .i64 k ∧ r = opFrom s (24 - k) k) (fun v => 24 - (intOf v).toNat)
  case atStart => exact ⟨1, by omega, by omega, rfl, HE.out⟩
  case round =>
    obtain ⟨k, h1, h24, rfl, hr⟩ := hrel
    by_cases hk : k ≤ 23
    · have e1 : 24 - k = (24 - (k + 1)) + 1 := by omega
      rw [e1, opFrom_succ] at hr
      have HF := Lib.hid (cForm k w)
      have hk2 : (k : Int) ≤ 23 := by omega
      have HR := Lib.hid hr
      clear hr e1
      generalize hsL k = hs at *
      generalize nmL k = nm at *
      go_wp2_with fail
      refine HF.out.mono ?_
      rintro e w' ⟨rfl, rfl⟩
      unfold bs
      by_cases he : hs = []
      · subst he
        rw [if_neg (by simp)] at HR
        go_wp2
        go_round
        case rel => exact ⟨k + 1, by omega, by omega, by go_num, by rw [HR.out]; rfl⟩
        case measure => simp [intOf]; omega
      have he1 : hs.isEmpty = false := by simpa using he
      by_cases hq : nm = s
      · subst hq
        rw [if_pos ⟨he1, rfl⟩] at HR
        have hq1 : (nm == nm) = true := by simp
        go_wp2
        go_ret
        exact ⟨ret_int HR.out.symm, rfl⟩
      · have hq1 : (nm == s) = false := by simpa using hq
        rw [if_neg (fun h => hq h.2)] at HR
        go_wp2
        go_round
        case rel => exact ⟨k + 1, by omega, by omega, by go_num, by rw [HR.out]; rfl⟩
        case measure => simp [intOf]; omega
    · obtain rfl : k = 24 := by omega
      go_wp2
      go_ret
      exact ⟨ret_int rfl, rfl⟩

theorem cValueAt (v : Value) (ws : List (List UInt8)) (n : Nat) (hn : n < 100) (hw : ∀ l ∈ ws, l.length < 4294967281) (w : World) (hs : Strs w v ws) (L : Lb w) :
    Calls Tryd.prog 41 #[v, .int .i64 n] w fun e w' => e = .returned (.int .i64 (valAt ws n)) ∧ Below w.heap.size w w' := by
  obtain ⟨g, cap, rfl, hc1, hc2, hg, hcell⟩ := hs
  by_cases hlt : n < ws.length
  · have hx := hcell n hlt
    have hmem : ws.getD n [] ∈ ws := by simp [hlt]
    have E : valAt ws n = valL (ws.getD n []) := by unfold valAt; rw [if_pos hlt]
    have hl := hw _ hmem
    generalize ws.getD n [] = l at *
    clear hmem hcell
    generalize valAt ws n = r at *
    have HT := Lib.hid (fun W => lTrim l [114] W)
    have htl : (Lib.trimPrefix l [114]).length ≤ 4294967281 := by
      unfold Lib.trimPrefix
      split
      · simp; omega
      · omega
    unfold bs at hx
    by_cases h1 : l = [101, 113]
    · subst h1
      have HE := Lib.hid (E.trans (show valL [101, 113] = 0 from rfl))
      clear E
      go_enter Tryd.func41, Tryd.ntmps41
      go_wp2
      go_ret
      exact ⟨ret_int HE.out.symm, Below.refl _ _⟩
    by_cases h2 : l = [110, 101]
    · subst h2
      have HE := Lib.hid (E.trans (show valL [110, 101] = 1 from rfl))
      clear E
      go_enter Tryd.func41, Tryd.ntmps41
      go_wp2
      go_ret
      exact ⟨ret_int HE.out.symm, Below.refl _ _⟩
    have b1 : (l == [101, 113]) = false := by simpa using h1
    have b2 : (l == [110, 101]) = false := by simpa using h2
    unfold valL at E
    rw [if_neg h1, if_neg h2] at E
    clear h1 h2
    generalize Lib.trimPrefix l [114] = tl at *
    cases ha : Lib.atoiAll tl with
    | ok x =>
      rw [ha] at E
      have HE := Lib.hid E
      have HA := Lib.hid (fun W => lAtoiOk tl (by omega) x ha W)
      clear E ha
      go_enter Tryd.func41, Tryd.ntmps41
      go_wp2_with fail
      refine (HT.out _).mono ?_
      rintro e w' ⟨rfl, rfl⟩
      go_wp2_with fail
      refine (HA.out _).mono ?_
      rintro e y ⟨rfl, hy⟩
      go_wp2
      go_ret
      exact ⟨ret_int HE.out.symm, hy⟩
    | _ =>
      rw [ha] at E
      have HE := Lib.hid E
      have HA := Lib.hid (fun W LW => lAtoiNo tl (by omega) (by rw [ha]; intro v h; cases h) W LW)
      clear E ha
      go_enter Tryd.func41, Tryd.ntmps41
      go_wp2_with fail
      refine (HT.out _).mono ?_
      rintro e w' ⟨rfl, rfl⟩
      go_wp2_with fail
      refine (HA.out _ L).mono ?_
      rintro e y ⟨x, b, rfl, hy⟩
      go_wp2
      go_ret
      exact ⟨ret_int HE.out.symm, hy⟩
  · have E : valAt ws n = -1 := by unfold valAt; rw [if_neg hlt]
    have HE := Lib.hid E
    clear E hcell
    generalize valAt ws n = r at *
    generalize ws.length = m at *
    go_enter Tryd.func41, Tryd.ntmps41
    go_wp2
    go_ret
    exact ⟨ret_int HE.out.symm, Below.refl _ _⟩
end Go.Proofs.YthdgehcghklflaaDoor

/- inst.draft. -/
namespace Go.Proofs.YthdgehcghklflaaDoor
open Go.ChangeShapes Go.WideShapes Go.ChangeAt Go.RowKit
set_option linter.unusedVariables false

theorem fill_snoc (ws : List (List UInt8)) : ∀ (l : List UInt8) (m : Nat) (i : Ins) (n : Nat), n < l.length → fillI ws (l.take (n + 1)) m i = setI (fillI ws (l.take n) m i) (l.getD n 0).toNat (valAt ws (m + n + 1))
  | [], _, _, n, h => by simp at h
  | c :: l, m, i, 0, _ => by simp [fillI]
  | c :: l, m, i, n + 1, h => by
    have := fill_snoc ws l (m + 1) (setI i c.toNat (valAt ws (m + 1))) n (by simpa using h)
    simp only [List.take_succ_cons, fillI, List.getD_cons_succ]
    rw [this]
    congr 2
    omega
theorem fill_op (ws : List (List UInt8)) : ∀ (l : List UInt8) (m : Nat) (i : Ins), (fillI ws l m i).op = i.op
  | [], _, _ => rfl
  | c :: l, m, i => by
    rw [fillI, fill_op ws l]
    unfold setI
    simp only [apply_ite Ins.op]
    repeat' split
    all_goals rfl

set_option maxHeartbeats 1000000 in
theorem cDraft (v : Value) (ws : List (List UInt8)) (h0 : 0 < ws.length) (hw : ∀ l ∈ ws, l.length < 4294967281) (w : World) (hs : Strs w v ws) (L : Lb w) :
    Calls Tryd.prog 33 #[v] w fun e w' => e = .returned (iv (draftI ws)) ∧ Below w.heap.size w w' := by
  have HD := Lib.hid (show draftI ws = lastI ws (fillI ws (hsL (opN (ws.getD 0 []))) 0 { Ins.zero with op := opN (ws.getD 0 []) }) from rfl)
  generalize draftI ws = res at *
  have HV := Lib.hid (fun n hn W hS LW => cValueAt v ws n hn hw W hS LW)
  have HS := Lib.hid hs
  obtain ⟨g, cap, rfl, hc1, hc2, hg, hcell⟩ := hs
  have hx := hcell 0 h0
  have HO := Lib.hid (fun W => cOpNamed (ws.getD 0 []) W)
  have HX := Lib.hid (show bs (ws.getD 0 []) = bs (ws.getD 0 []) from rfl)
  unfold bs at hx
  have HO2 := Lib.hid (show ∀ W, Calls Tryd.prog 38 #[.string ⟨(ws.getD 0 []).toArray⟩] W fun e w' => e = .returned (.int .i64 (opN (ws.getD 0 []))) ∧ W = w' from HO.out)
  clear HO HX
  generalize opN (ws.getD 0 []) = op at *
  generalize (ws.getD 0 []) = w0 at *
  clear hcell
  have HF := Lib.hid (cForm op)
  have hL := hs_ltr op
  have h6 := hs_len op
  generalize hsL op = hs at *
  generalize nmL op = nm at *
  have HL := Lib.hid hL
  clear hL
  have hlen : (0 : Int) < (ws.length : Int) := by omega
  go_enter Tryd.func33, Tryd.ntmps33
  go_wp2_with fail
  refine (HO2.out _).mono ?_
  rintro e w' ⟨rfl, rfl⟩
  go_wp2_with fail
  refine (HF.out _).mono ?_
  rintro e w' ⟨rfl, rfl⟩
  unfold bs
  go_wp2
  go_loopw [20] (fun v x => ∃ n : Nat, n ≤ hs.length ∧ v = .int .i64 n ∧ Below w.heap.size w x ∧ Bk x w.heap.size 60 #[.int .i64 0, .int .i64 0, .int .i64 0, .int .i64 0, .int .i64 0, .int .i64 0, .int .u32 0, .int .i64 0] ∧ Ib x (w.heap.size + 1) (fillI ws (hs.take n) 0 { Ins.zero with op := op })) (fun v _ => hs.length - (intOf v).toNat)
  case atStart =>
    refine ⟨0, Nat.zero_le _, rfl, ?_, ?_, ?_⟩
    · exact (((Below.refl _ _).alloc (Nat.le_refl _) _).alloc (by simp) _)
    · exact (Bk.made _ _ _).alloc _
    · have := Ib.made (w.alloc (.cells #[.int .i64 0, .int .i64 0, .int .i64 0, .int .i64 0, .int .i64 0, .int .i64 0, .int .u32 0, .int .i64 0] 60)) op 0 0 0 0 0 0 0
      rw [show (w.alloc (.cells #[.int .i64 0, .int .i64 0, .int .i64 0, .int .i64 0, .int .i64 0, .int .i64 0, .int .u32 0, .int .i64 0] 60)).heap.size = w.heap.size + 1 by simp] at this
      exact this
  case round =>
    obtain ⟨n, hn, rfl, hb, hR, hZ⟩ := hrel
    generalize wr = x at *
    have hlt1 : w.heap.size < x.heap.size := Bk.lt hR
    have hlt2 : w.heap.size + 1 < x.heap.size := Bk.lt hZ
    by_cases hlt : n < hs.length
    · have hidx := run_ltr hs n hlt
      have hc : Ltr ((hs.getD n 0).toNat : Int) := HL.out _ (by simp [hlt])
      have hsn := fill_snoc ws hs 0 { Ins.zero with op := op } n hlt
      rw [Nat.zero_add] at hsn
      generalize ((hs.getD n 0).toNat : Int) = c at hidx hc hsn
      generalize fillI ws (hs.take n) 0 { Ins.zero with op := op } = z at hZ hsn
      have HSN := Lib.hid hsn
      clear hsn
      obtain ⟨zop, zd, zs, zt, zu, za, zk, zpl⟩ := z
      have HV2 := Lib.hid (show ∀ W, Below x.heap.size x W → Calls Tryd.prog 41 #[.slice (some ⟨g, 0, none⟩) ws.length cap, .int .i64 ((n : Int) + 1)] W fun e w' => e = .returned (.int .i64 (valAt ws (n + 1))) ∧ Below W.heap.size W w' from fun W hW => by
        have hbw := hb.trans (hW.mono (Nat.le_of_lt hlt1))
        exact HV.out (n + 1) (by omega) W (HS.out.below hbw) (L.below hbw))
      generalize valAt ws (n + 1) = vv at *
      obtain ⟨c0, c1, c2, c3, c4, c5, c6, c7⟩ := hZ.cells
      simp only at c0 c1 c2 c3 c4 c5 c6 c7
      have hw1 : IntKind.i64.wrap ((n : Int) + 1) = (n : Int) + 1 := IntWalk.i64_in _ (by omega)
      go_wp2_with fail
      go_region_law (first | (go_simp; go_at_call 41; refine (HV2.out _ (Below.refl _ _).drew).mono ?_; rintro e y1 ⟨rfl, hy1⟩; replace hy1 := below_of_drew hy1; obtain ⟨d0, d1, d2, d3, d4, d5, d6, d7⟩ := (hZ.below hy1).cells) | (go_simp; go_at_call 40; refine (cSet ⟨zop, zd, zs, zt, zu, za, zk, zpl⟩ _ vv hc _).mono ?_; rintro e y ⟨rfl, hy⟩; replace hy := hy1.trans (hy.mono hy1.size); obtain ⟨e0, e1, e2, e3, e4, e5, e6, e7⟩ := (hZ.below hy).cells; have hf := Bk.free (hZ.below hy); generalize hz2 : setI ⟨zop, zd, zs, zt, zu, za, zk, zpl⟩ c vv = z2; have HZ2 := Lib.hid hz2; clear hz2; obtain ⟨yop, yd, ys, yt, yu, ya, yk, ypl⟩ := z2; unfold iv))
      all_goals
        generalize hv : ((((((((y.setCell ⟨w.heap.size + 1, 0, none⟩ (.int .i64 yop)).setCell ⟨w.heap.size + 1, 1, none⟩ (.int .i64 yd)).setCell ⟨w.heap.size + 1, 2, none⟩ (.int .i64 ys)).setCell ⟨w.heap.size + 1, 3, none⟩ (.int .i64 yt)).setCell ⟨w.heap.size + 1, 4, none⟩ (.int .i64 yu)).setCell ⟨w.heap.size + 1, 5, none⟩ (.int .i64 ya)).setCell ⟨w.heap.size + 1, 6, none⟩ (.int .u32 yk)).setCell ⟨w.heap.size + 1, 7, none⟩ (.int .i64 ypl)) = v
        have hv2 : put8 y (w.heap.size + 1) ⟨yop, yd, ys, yt, yu, ya, yk, ypl⟩ = v := hv
        clear hv
        have hA := put8_ib (i := ⟨yop, yd, ys, yt, yu, ya, yk, ypl⟩) (hZ.below hy)
        have hB := put8_off (i := ⟨yop, yd, ys, yt, yu, ya, yk, ypl⟩) ((hy.block w.heap.size hlt1).trans hR : Bk y w.heap.size 60 _) (show w.heap.size ≠ w.heap.size + 1 by omega)
        have hC := put8_below (i := ⟨yop, yd, ys, yt, yu, ya, yk, ypl⟩) (hb.trans (hy.mono (Nat.le_of_lt hlt1))) (show w.heap.size ≤ w.heap.size + 1 by omega)
        rw [hv2] at hA hB hC
        clear hv2 d0 d1 d2 d3 d4 d5 d6 d7 e0 e1 e2 e3 e4 e5 e6 e7 hf c0 c1 c2 c3 c4 c5 c6 c7 hidx hw1
        have hn1 : (n : Int) + 1 ≤ 6 := by omega
        go_wp2
        go_roundw
        case rel => exact ⟨n + 1, by omega, by go_num, hC, hB, by rw [HSN.out, HZ2.out]; exact hA⟩
        case measure => simp [intOf]; omega
    · obtain rfl : n = hs.length := by omega
      rw [List.take_length] at hZ
      have hop := fill_op ws hs 0 { Ins.zero with op := op }
      have HD2 := Lib.hid HD.out
      generalize fillI ws hs 0 { Ins.zero with op := op } = z at hZ hop HD2
      obtain ⟨zop, zd, zs, zt, zu, za, zk, zpl⟩ := z
      simp only at hop
      obtain ⟨c0, c1, c2, c3, c4, c5, c6, c7⟩ := hZ.cells
      simp only at c0 c1 c2 c3 c4 c5 c6 c7
      subst hop
      by_cases h21 : zop = 21
      · subst h21
        have HV2 := Lib.hid (HV.out 7 (by omega) x (HS.out.below hb) (L.below hb))
        generalize hvv : valAt ws 7 = vv at *
        have E2 := Lib.hid (HD2.out.trans (show lastI ws ⟨21, zd, zs, zt, zu, za, zk, zpl⟩ = ⟨21, zd, zs, zt, zu, za, zk, vv⟩ by unfold lastI; simp [hvv]))
        clear hvv
        go_wp2_with fail
        refine HV2.out.mono ?_
        rintro e y ⟨rfl, hy⟩
        obtain ⟨d0, d1, d2, d3, d4, d5, d6, d7⟩ := (hZ.below hy).cells
        have hf := Bk.free (hZ.below hy)
        have hRy : Ib y w.heap.size Ins.zero := (hy.block w.heap.size hlt1).trans hR
        obtain ⟨r0, r1, r2, r3, r4, r5, r6, r7⟩ := hRy.cells
        have hfR := Bk.free hRy
        go_wp2
        generalize hv : (((((((((y.setCell ⟨w.heap.size + 1, 7, none⟩ (.int .i64 vv)).setCell ⟨w.heap.size, 0, none⟩ (.int .i64 21)).setCell ⟨w.heap.size, 1, none⟩ (.int .i64 zd)).setCell ⟨w.heap.size, 2, none⟩ (.int .i64 zs)).setCell ⟨w.heap.size, 3, none⟩ (.int .i64 zt)).setCell ⟨w.heap.size, 4, none⟩ (.int .i64 zu)).setCell ⟨w.heap.size, 5, none⟩ (.int .i64 za)).setCell ⟨w.heap.size, 6, none⟩ (.int .u32 zk)).setCell ⟨w.heap.size, 7, none⟩ (.int .i64 vv)) = v
        have hv2 : put8 (y.setCell ⟨w.heap.size + 1, 7, none⟩ (.int .i64 vv)) w.heap.size ⟨21, zd, zs, zt, zu, za, zk, vv⟩ = v := hv
        clear hv
        have hA := put8_ib (i := ⟨21, zd, zs, zt, zu, za, zk, vv⟩) (show Ib (y.setCell ⟨w.heap.size + 1, 7, none⟩ (.int .i64 vv)) w.heap.size Ins.zero from Bk.off hRy (show w.heap.size ≠ w.heap.size + 1 by omega) _)
        have hC := put8_below (i := ⟨21, zd, zs, zt, zu, za, zk, vv⟩) ((hb.trans (hy.mono (Nat.le_of_lt hlt1))).setCell (p := ⟨w.heap.size + 1, 7, none⟩) (show w.heap.size ≤ w.heap.size + 1 by omega) (.int .i64 vv)) (Nat.le_refl _)
        rw [hv2] at hA hC
        clear hv2
        obtain ⟨q0, q1, q2, q3, q4, q5, q6, q7⟩ := hA.cells
        simp only at q0 q1 q2 q3 q4 q5 q6 q7
        refine bodyPost_ret (v := .agg #[.int .i64 21, .int .i64 zd, .int .i64 zs, .int .i64 zt, .int .i64 zu, .int .i64 za, .int .u32 zk, .int .i64 vv]) (by simp [results, Tryd.results33, go_sem, q0, q1, q2, q3, q4, q5, q6, q7]) rfl ⟨by rw [E2.out]; rfl, hC⟩
      · have b21 : (zop == 21) = false := by simpa using h21
        have E2 := Lib.hid (HD2.out.trans (show lastI ws ⟨zop, zd, zs, zt, zu, za, zk, zpl⟩ = ⟨zop, zd, zs, zt, zu, za, zk, zpl⟩ by unfold lastI; rw [if_neg h21]))
        have hRy : Ib x w.heap.size Ins.zero := hR
        obtain ⟨r0, r1, r2, r3, r4, r5, r6, r7⟩ := hRy.cells
        have hfR := Bk.free hRy
        clear h21
        go_wp2
        generalize hv : ((((((((x.setCell ⟨w.heap.size, 0, none⟩ (.int .i64 zop)).setCell ⟨w.heap.size, 1, none⟩ (.int .i64 zd)).setCell ⟨w.heap.size, 2, none⟩ (.int .i64 zs)).setCell ⟨w.heap.size, 3, none⟩ (.int .i64 zt)).setCell ⟨w.heap.size, 4, none⟩ (.int .i64 zu)).setCell ⟨w.heap.size, 5, none⟩ (.int .i64 za)).setCell ⟨w.heap.size, 6, none⟩ (.int .u32 zk)).setCell ⟨w.heap.size, 7, none⟩ (.int .i64 zpl)) = v
        have hv2 : put8 x w.heap.size ⟨zop, zd, zs, zt, zu, za, zk, zpl⟩ = v := hv
        clear hv
        have hA := put8_ib (i := ⟨zop, zd, zs, zt, zu, za, zk, zpl⟩) hRy
        have hC := put8_below (i := ⟨zop, zd, zs, zt, zu, za, zk, zpl⟩) hb (Nat.le_refl _)
        rw [hv2] at hA hC
        clear hv2
        obtain ⟨q0, q1, q2, q3, q4, q5, q6, q7⟩ := hA.cells
        simp only at q0 q1 q2 q3 q4 q5 q6 q7
        refine bodyPost_ret (v := .agg #[.int .i64 zop, .int .i64 zd, .int .i64 zs, .int .i64 zt, .int .i64 zu, .int .i64 za, .int .u32 zk, .int .i64 zpl]) (by simp [results, Tryd.results33, go_sem, q0, q1, q2, q3, q4, q5, q6, q7]) rfl ⟨by rw [E2.out]; rfl, hC⟩
end Go.Proofs.YthdgehcghklflaaDoor

/- inst.Parse. -/
namespace Go.Proofs.YthdgehcghklflaaDoor
open Go.ChangeShapes Go.WideShapes Go.ChangeAt Go.RowKit
set_option linter.unusedVariables false

theorem splitK_pos (sep : List UInt8) : ∀ (k : Nat) (s : List UInt8), 0 < (Lib.splitK sep 0 k s).length
  | 0, _ => by simp [Lib.splitK]
  | k + 1, s => by unfold Lib.splitK; split <;> simp
theorem splitK_le (sep : List UInt8) : ∀ (k : Nat) (s : List UInt8), ∀ l ∈ Lib.splitK sep 0 k s, l.length ≤ s.length
  | 0, s, l, h => by simp [Lib.splitK] at h; subst h; exact Nat.le_refl _
  | k + 1, s, l, h => by
    unfold Lib.splitK at h
    split at h
    · simp at h; subst h; exact Nat.le_refl _
    · rcases List.mem_cons.1 h with rfl | h
      · simp; omega
      · have := splitK_le sep k _ l h
        simp at this
        omega

theorem valL_in (l : List UInt8) : -9223372036854775808 ≤ valL l ∧ valL l ≤ 9223372036854775807 := by
  unfold valL
  split
  · omega
  split
  · omega
  split
  · rename_i v h; exact Lib.atoiAll_bounds h
  · omega
theorem valAt_in (ws : List (List UInt8)) (n : Nat) : -9223372036854775808 ≤ valAt ws n ∧ valAt ws n ≤ 9223372036854775807 := by
  unfold valAt
  split
  · exact valL_in _
  · omega
theorem set_wf (i : Ins) (h : i.Wf) (c v : Int) (h0 : -9223372036854775808 ≤ v) (h1 : v ≤ 9223372036854775807) : (setI i c v).Wf := by
  obtain ⟨a1, a2, a3, a4, a5, a6, a7, a8, a9, a10, a11, a12, a13, a14, a15, a16⟩ := h
  have hm0 : 0 ≤ v % 4294967296 := by omega
  have hm1 : v % 4294967296 < 4294967296 := by omega
  unfold setI
  by_cases c1 : c = 68
  · rw [if_pos c1]; constructor <;> assumption
  rw [if_neg c1]
  by_cases c2 : c = 83
  · rw [if_pos c2]; constructor <;> assumption
  rw [if_neg c2]
  by_cases c3 : c = 84
  · rw [if_pos c3]; constructor <;> assumption
  rw [if_neg c3]
  by_cases c4 : c = 85
  · rw [if_pos c4]; constructor <;> assumption
  rw [if_neg c4]
  by_cases c5 : c = 65
  · rw [if_pos c5]; constructor <;> assumption
  rw [if_neg c5]
  by_cases c6 : c = 75
  · rw [if_pos c6]; constructor <;> assumption
  rw [if_neg c6]
  by_cases c7 : c = 80
  · rw [if_pos c7]; constructor <;> assumption
  rw [if_neg c7]; constructor <;> assumption
theorem fill_wf (ws : List (List UInt8)) : ∀ (l : List UInt8) (m : Nat) (i : Ins), i.Wf → (fillI ws l m i).Wf
  | [], _, _, h => h
  | c :: l, m, i, h => by
    rw [fillI]
    exact fill_wf ws l _ _ (set_wf i h _ _ (valAt_in ws _).1 (valAt_in ws _).2)
theorem opFrom_in (s : List UInt8) : ∀ (n : Nat) (k : Int), 0 ≤ k → 0 ≤ opFrom s n k ∧ opFrom s n k ≤ k + n
  | 0, k, h => by unfold opFrom; omega
  | n + 1, k, h => by
    unfold opFrom
    split
    · omega
    · have := opFrom_in s n (k + 1) (by omega)
      omega
theorem draft_wf (ws : List (List UInt8)) : (draftI ws).Wf := by
  unfold draftI lastI
  have h1 := opFrom_in (ws.getD 0 []) 23 1 (by omega)
  have h2 : opN (ws.getD 0 []) = opFrom (ws.getD 0 []) 23 1 := rfl
  generalize opN (ws.getD 0 []) = op at *
  have hw : (fillI ws (hsL op) 0 { Ins.zero with op := op }).Wf := fill_wf ws _ _ _ (by unfold Ins.zero; constructor <;> simp <;> omega)
  generalize fillI ws (hsL op) 0 { Ins.zero with op := op } = i at *
  split
  · obtain ⟨a1, a2, a3, a4, a5, a6, a7, a8, a9, a10, a11, a12, a13, a14, a15, a16⟩ := hw
    have hv := valAt_in ws 7
    obtain ⟨v0, v1⟩ := hv
    constructor <;> assumption
  · exact hw

/-- What Parse answers. -/
def parsedI (s : List UInt8) : Ins := draftI (splitL s)
def parseB (s : List UInt8) : Bool := rightB (parsedI s) 1073741824 && decide (textL (parsedI s) = s)
def parseV (s : List UInt8) : Value := if parseB s = true then .tuple #[iv (parsedI s), .int .i64 0] else .tuple #[iv Ins.zero, .int .i64 8]

set_option maxHeartbeats 1000000 in
theorem cParse (s : List UInt8) (hl : s.length < 4294967281) (w : World) (L : Lb w) :
    Calls Tryd.prog 28 #[bs s] w fun e w' => e = .returned (parseV s) ∧ Below w.heap.size w w' := by
  have HS := Lib.hid (fun W LW => lSplit s hl W LW)
  have h0 : 0 < (splitL s).length := splitK_pos _ _ _
  have hw : ∀ l ∈ splitL s, l.length < 4294967281 := fun l h => Nat.lt_of_le_of_lt (splitK_le _ _ _ l h) hl
  have HD := Lib.hid (fun v W hS LW => cDraft v (splitL s) h0 hw W hS LW)
  have HT := Lib.hid (fun W LW => cText (parsedI s) (draft_wf _) W LW)
  have E : parseV s = if (rightB (parsedI s) 1073741824 && decide (textL (parsedI s) = s)) = true then .tuple #[iv (parsedI s), .int .i64 0] else .tuple #[iv Ins.zero, .int .i64 8] := rfl
  have HD2 := Lib.hid (show ∀ v W, Strs W v (splitL s) → Lb W → Calls Tryd.prog 33 #[v] W fun e w' => e = .returned (iv (parsedI s)) ∧ Below W.heap.size W w' from HD.out)
  clear HD h0 hw
  generalize parseV s = res at *
  generalize parsedI s = i at *
  have HE := Lib.hid E
  clear E
  obtain ⟨op, d, s', t, u, a, k, pl⟩ := i
  unfold bs
  go_enter Tryd.func28, Tryd.ntmps28
  go_wp2_with fail
  have b1 : Below w.heap.size w (w.alloc (.cells #[.int .i64 0, .int .i64 0, .int .i64 0, .int .i64 0, .int .i64 0, .int .i64 0, .int .u32 0, .int .i64 0] 60)) := (Below.refl _ _).alloc (Nat.le_refl _) _
  have m1 : Ib (w.alloc (.cells #[.int .i64 0, .int .i64 0, .int .i64 0, .int .i64 0, .int .i64 0, .int .i64 0, .int .u32 0, .int .i64 0] 60)) w.heap.size Ins.zero := Bk.made _ _ _
  generalize w.alloc (.cells #[.int .i64 0, .int .i64 0, .int .i64 0, .int .i64 0, .int .i64 0, .int .i64 0, .int .u32 0, .int .i64 0] 60) = x1 at *
  refine (HS.out x1 (L.below b1)).mono ?_
  rintro e x2 ⟨v, rfl, hS, b2⟩
  replace m1 := m1.below b2
  replace b2 := b1.trans (b2.mono b1.size)
  clear b1
  go_wp2_with fail
  refine (HD2.out v _ hS (L.below b2)).mono ?_
  rintro e x3 ⟨rfl, b3⟩
  replace m1 := m1.below b3
  replace b3 := b2.trans (b3.mono b2.size)
  clear b2 hS x2 x1
  unfold iv
  go_wp2_with fail
  have b4 : Below w.heap.size w (x3.alloc (.cells #[.int .i64 op, .int .i64 d, .int .i64 s', .int .i64 t, .int .i64 u, .int .i64 a, .int .u32 k, .int .i64 pl] 60)) := b3.alloc b3.size _
  have m2 := Ib.made x3 op d s' t u a k pl
  have m3 : Ib (x3.alloc (.cells #[.int .i64 op, .int .i64 d, .int .i64 s', .int .i64 t, .int .i64 u, .int .i64 a, .int .u32 k, .int .i64 pl] 60)) w.heap.size Ins.zero := Bk.alloc m1 _
  have hne : w.heap.size ≠ x3.heap.size := Nat.ne_of_lt (Bk.lt m1)
  clear m1 b3
  generalize x3.heap.size = g at *
  generalize x3.alloc (.cells #[.int .i64 op, .int .i64 d, .int .i64 s', .int .i64 t, .int .i64 u, .int .i64 a, .int .u32 k, .int .i64 pl] 60) = x4 at *
  refine (HT.out x4 (L.below b4)).mono ?_
  rintro e y ⟨rfl, hy⟩
  replace m2 := m2.below hy
  replace m3 := m3.below hy
  replace b4 := b4.trans (hy.mono b4.size)
  clear hy x4 HT HD2 HS
  obtain ⟨c0, c1, c2, c3, c4, c5, c6, c7⟩ := m2.cells
  obtain ⟨r0, r1, r2, r3, r4, r5, r6, r7⟩ := m3.cells
  have hfR := Bk.free m3
  simp only at c0 c1 c2 c3 c4 c5 c6 c7
  unfold Ins.zero at r0 r1 r2 r3 r4 r5 r6 r7
  simp only at r0 r1 r2 r3 r4 r5 r6 r7
  unfold textV
  cases hr : rightB ⟨op, d, s', t, u, a, k, pl⟩ 1073741824 with
  | false =>
    rw [hr] at HE
    clear hr
    rw [if_neg (by decide)]
    unfold bs
    go_wp2
    generalize hv : ((((((((y.setCell ⟨w.heap.size, 0, none⟩ (.int .i64 0)).setCell ⟨w.heap.size, 1, none⟩ (.int .i64 0)).setCell ⟨w.heap.size, 2, none⟩ (.int .i64 0)).setCell ⟨w.heap.size, 3, none⟩ (.int .i64 0)).setCell ⟨w.heap.size, 4, none⟩ (.int .i64 0)).setCell ⟨w.heap.size, 5, none⟩ (.int .i64 0)).setCell ⟨w.heap.size, 6, none⟩ (.int .u32 0)).setCell ⟨w.heap.size, 7, none⟩ (.int .i64 0)) = v9
    have hv2 : put8 y w.heap.size ⟨0, 0, 0, 0, 0, 0, 0, 0⟩ = v9 := hv
    clear hv
    have hA := put8_ib (i := ⟨0, 0, 0, 0, 0, 0, 0, 0⟩) m3
    have hC := put8_below (i := ⟨0, 0, 0, 0, 0, 0, 0, 0⟩) b4 (Nat.le_refl _)
    rw [hv2] at hA hC
    clear hv2
    obtain ⟨q0, q1, q2, q3, q4, q5, q6, q7⟩ := hA.cells
    simp only at q0 q1 q2 q3 q4 q5 q6 q7
    refine bodyPost_ret (v := .tuple #[.agg #[.int .i64 0, .int .i64 0, .int .i64 0, .int .i64 0, .int .i64 0, .int .i64 0, .int .u32 0, .int .i64 0], .int .i64 8]) (by simp [results, Tryd.results28, go_sem, q0, q1, q2, q3, q4, q5, q6, q7]) rfl ⟨?_, hC⟩
    rw [HE.out]; rfl
  | true =>
    rw [hr] at HE
    clear hr
    rw [if_pos rfl]
    generalize textL ⟨op, d, s', t, u, a, k, pl⟩ = tx at *
    unfold bs
    by_cases hq : tx = s
    · subst hq
      have hq1 : (tx == tx) = true := by simp
      have HE2 := Lib.hid (HE.out.trans (if_pos (by simp)))
      clear HE
      go_wp2
      generalize hv : ((((((((y.setCell ⟨w.heap.size, 0, none⟩ (.int .i64 op)).setCell ⟨w.heap.size, 1, none⟩ (.int .i64 d)).setCell ⟨w.heap.size, 2, none⟩ (.int .i64 s')).setCell ⟨w.heap.size, 3, none⟩ (.int .i64 t)).setCell ⟨w.heap.size, 4, none⟩ (.int .i64 u)).setCell ⟨w.heap.size, 5, none⟩ (.int .i64 a)).setCell ⟨w.heap.size, 6, none⟩ (.int .u32 k)).setCell ⟨w.heap.size, 7, none⟩ (.int .i64 pl)) = v9
      have hv2 : put8 y w.heap.size ⟨op, d, s', t, u, a, k, pl⟩ = v9 := hv
      clear hv
      have hA := put8_ib (i := ⟨op, d, s', t, u, a, k, pl⟩) m3
      have hC := put8_below (i := ⟨op, d, s', t, u, a, k, pl⟩) b4 (Nat.le_refl _)
      rw [hv2] at hA hC
      clear hv2
      obtain ⟨q0, q1, q2, q3, q4, q5, q6, q7⟩ := hA.cells
      simp only at q0 q1 q2 q3 q4 q5 q6 q7
      refine bodyPost_ret (v := .tuple #[.agg #[.int .i64 op, .int .i64 d, .int .i64 s', .int .i64 t, .int .i64 u, .int .i64 a, .int .u32 k, .int .i64 pl], .int .i64 0]) (by simp [results, Tryd.results28, go_sem, q0, q1, q2, q3, q4, q5, q6, q7]) rfl ⟨?_, hC⟩
      rw [HE2.out]; rfl
    · have hq1 : (tx == s) = false := by simpa using hq
      have HE2 := Lib.hid (HE.out.trans (if_neg (by simp [hq])))
      clear HE hq
      go_wp2
      generalize hv : ((((((((y.setCell ⟨w.heap.size, 0, none⟩ (.int .i64 0)).setCell ⟨w.heap.size, 1, none⟩ (.int .i64 0)).setCell ⟨w.heap.size, 2, none⟩ (.int .i64 0)).setCell ⟨w.heap.size, 3, none⟩ (.int .i64 0)).setCell ⟨w.heap.size, 4, none⟩ (.int .i64 0)).setCell ⟨w.heap.size, 5, none⟩ (.int .i64 0)).setCell ⟨w.heap.size, 6, none⟩ (.int .u32 0)).setCell ⟨w.heap.size, 7, none⟩ (.int .i64 0)) = v9
      have hv2 : put8 y w.heap.size ⟨0, 0, 0, 0, 0, 0, 0, 0⟩ = v9 := hv
      clear hv
      have hA := put8_ib (i := ⟨0, 0, 0, 0, 0, 0, 0, 0⟩) m3
      have hC := put8_below (i := ⟨0, 0, 0, 0, 0, 0, 0, 0⟩) b4 (Nat.le_refl _)
      rw [hv2] at hA hC
      clear hv2
      obtain ⟨q0, q1, q2, q3, q4, q5, q6, q7⟩ := hA.cells
      simp only at q0 q1 q2 q3 q4 q5 q6 q7
      refine bodyPost_ret (v := .tuple #[.agg #[.int .i64 0, .int .i64 0, .int .i64 0, .int .i64 0, .int .i64 0, .int .i64 0, .int .u32 0, .int .i64 0], .int .i64 8]) (by simp [results, Tryd.results28, go_sem, q0, q1, q2, q3, q4, q5, q6, q7]) rfl ⟨?_, hC⟩
      rw [HE2.out]; rfl
end Go.Proofs.YthdgehcghklflaaDoor

/- The lines of a text, each with its end; strings.Lines, strings.CutSuffix. -/
namespace Go.Proofs.YthdgehcghklflaaDoor
open Go.ChangeShapes Go.WideShapes Go.ChangeAt Go.RowKit Go.Shelf
attribute [local go_sem] Oper.semAt_some
set_option linter.unusedVariables false

/-- A sign ahead of the first line. -/
def onto (c : UInt8) : List (List UInt8) → List (List UInt8)
  | [] => [[c]]
  | x :: xs => (c :: x) :: xs
/-- The lines of a text, each with its end, if it has one. -/
def linesL : List UInt8 → List (List UInt8)
  | [] => []
  | c :: r => if c = 10 then [10] :: linesL r else onto c (linesL r)
/-- Line k. A plain definition, so that a walk leaves it alone. -/
def lineAt (text : List UInt8) (k : Nat) : List UInt8 := (linesL text).getD k []
theorem lines_more : ∀ (s r : List UInt8), Nl s → linesL (s ++ 10 :: r) = (s ++ [10]) :: linesL r
  | [], r, _ => by simp [linesL]
  | c :: s, r, h => by
    have ih := lines_more s r fun d hd => h d (List.mem_cons_of_mem _ hd)
    show linesL (c :: (s ++ 10 :: r)) = _
    rw [linesL, if_neg (h c List.mem_cons_self), ih]
    rfl
theorem lines_last : ∀ s : List UInt8, Nl s → s ≠ [] → linesL s = [s]
  | [], _, h => absurd rfl h
  | [c], h, _ => by simp [linesL, h c List.mem_cons_self, onto]
  | c :: d :: s, h, _ => by
    have ih := lines_last (d :: s) (fun x hx => h x (List.mem_cons_of_mem _ hx)) (by simp)
    rw [linesL, if_neg (h c List.mem_cons_self), ih]
    rfl
theorem lines_len : ∀ t : List UInt8, (linesL t).length ≤ t.length
  | [] => Nat.le_refl _
  | c :: t => by
    have ih := lines_len t
    rw [linesL]
    split
    · simp; omega
    · cases h : linesL t with
      | nil => simp [onto]
      | cons x y => rw [h] at ih; simp [onto] at ih ⊢; omega
theorem first_nl : ∀ t : List UInt8, Nl t ∨ ∃ s r, Nl s ∧ t = s ++ 10 :: r
  | [] => .inl (by unfold Nl; simp)
  | c :: t => by
    by_cases hc : c = 10
    · exact .inr ⟨[], t, by unfold Nl; simp, by rw [hc]; rfl⟩
    rcases first_nl t with h | ⟨s, r, hs, rfl⟩
    · exact .inl fun d hd => by
        rcases List.mem_cons.1 hd with rfl | hd
        · exact hc
        · exact h d hd
    · exact .inr ⟨c :: s, r, fun d hd => by
        rcases List.mem_cons.1 hd with rfl | hd
        · exact hc
        · exact hs d hd, rfl⟩
theorem index_no : ∀ t : List UInt8, Nl t → Lib.indexByte t 10 = -1
  | [], _ => rfl
  | c :: t, h => by
    have ih := index_no t fun d hd => h d (List.mem_cons_of_mem _ hd)
    have hc : (c == 10) = false := by simpa using h c List.mem_cons_self
    rw [Lib.indexByte, hc, ih]
    simp
theorem index_yes : ∀ s r : List UInt8, Nl s → Lib.indexByte (s ++ 10 :: r) 10 = s.length
  | [], r, _ => by simp [Lib.indexByte]
  | c :: s, r, h => by
    have ih := index_yes s r fun d hd => h d (List.mem_cons_of_mem _ hd)
    have hc : (c == 10) = false := by simpa using h c List.mem_cons_self
    show Lib.indexByte (c :: (s ++ 10 :: r)) 10 = _
    rw [Lib.indexByte, hc, ih]
    have : ((s.length : Int) == -1) = false := by simp
    simp [this]

theorem lIndex (s : List UInt8) (w : World) :
    Calls Tryd.prog 25 #[bs s, .int .u8 10] w fun e w' => e = .returned (.int .i64 (Lib.indexByte s 10)) ∧ w = w' :=
  (Any.strings_IndexByte Tryd.lays137 ⟨s.toArray⟩ 10 w).mono fun _ _ ⟨he, hw⟩ => ⟨he, hw.symm⟩

theorem run_lo (s r : List UInt8) (w : World) : (Instr.slice 9 (.string ⟨(s ++ 10 :: r).toArray⟩) none (some (.int .i64 ((s.length : Int) + 1))) none).run Tryd.prog w = .ok (.string ⟨(s ++ [10]).toArray⟩) w := by
  have hu := Tryd.underlying9
  go_simp
  rw [if_pos ⟨by omega, by omega⟩]
  refine congrArg (fun x => Result.ok (Value.string x) w) (ByteArray.ext ?_)
  rw [ByteArray.data_extract]
  apply Array.ext'
  simp
  rw [show s ++ 10 :: r = (s ++ [10]) ++ r by simp, show s.length + 1 = (s ++ [10]).length by simp, List.take_left]
theorem run_hi (s r : List UInt8) (w : World) : (Instr.slice 9 (.string ⟨(s ++ 10 :: r).toArray⟩) (some (.int .i64 ((s.length : Int) + 1))) none none).run Tryd.prog w = .ok (.string ⟨r.toArray⟩) w := by
  have hu := Tryd.underlying9
  go_simp
  rw [if_pos ⟨by omega, by omega⟩]
  refine congrArg (fun x => Result.ok (Value.string x) w) (ByteArray.ext ?_)
  rw [ByteArray.data_extract]
  apply Array.ext'
  simp
  exact List.take_of_length_le (by omega)
/-- How long the string in a box is. -/
def boxLen (w : World) (b : Nat) : Nat := match w.cell? ⟨b, 0, none⟩ with
  | some (.string s) => s.size
  | _ => 0
theorem boxLen_of {w : World} {b : Nat} {t : TypeId} {s : List UInt8} (h : Bk w b t #[bs s]) : boxLen w b = s.length := by
  unfold boxLen
  rw [h.cell 0]
  show s.toArray.size = _
  simp

set_option maxHeartbeats 1000000 in
theorem it_lines (text : List UInt8) (b l : Nat) (W1 : World) (hb : Bk W1 b 9 #[bs text]) (hlen : text.length < 1000000000) :
    Iter Tryd.prog 24 #[.pointer (some ⟨b, 0, none⟩)] (fun k => #[bs (lineAt text k)]) (linesL text).length l W1 (fun x => x = b) := by
  intro J Jx hJ hJx hY h0
  refine callsIn_of_wp Tryd.func24 rfl trivial ?_ rfl
  simp only [Tryd.ntmps24, List.size_toArray, List.length_cons, List.length_nil, Nat.reduceAdd, Nat.reduceSub, Array.replicate_succ, Array.replicate_zero, List.push_toArray, List.append_toArray, List.nil_append, List.cons_append]
  gi_wp2
  gi_loopw [3] (fun p wr => ∃ (k : Nat) (t : List UInt8), k ≤ (linesL text).length ∧ (linesL text).drop k = linesL t ∧ t.length ≤ text.length ∧ Bk wr b 9 #[bs t] ∧ J k wr) (fun p wr => boxLen wr b)
  case atStart => exact ⟨0, text, Nat.zero_le _, rfl, Nat.le_refl _, hb, h0⟩
  case round =>
    obtain ⟨k, t, hkl, hdr, hle, hbk, hj⟩ := hrel
    have hbl := boxLen_of hbk
    have hc0 : wr.cell? ⟨b, 0, none⟩ = some (.string ⟨t.toArray⟩) := hbk.cell 0
    have hfr := hbk.free 0
    by_cases ht : t = []
    · subst ht
      have hk : k = (linesL text).length := by
        have := congrArg List.length hdr
        simp [linesL] at this
        omega
      subst hk
      gi_wp2
      go_end0
      exact ⟨⟨_, rfl⟩, .inl hj⟩
    · have hpos : (0 : Int) < t.length := by
        have := List.length_pos_iff.2 ht
        omega
      have HI := Lib.hid (fun W => callsIn_wide (n := 0) |>.2 (lIndex t W))
      rcases first_nl t with hn | ⟨s, r, hn, rfl⟩
      · have hk1 : k < (linesL text).length := by
          have := congrArg List.length hdr
          rw [lines_last t hn ht] at this
          simp at this
          omega
        have hk2 : (linesL text).length = k + 1 := by
          have := congrArg List.length hdr
          rw [lines_last t hn ht] at this
          simp at this
          omega
        have hline : lineAt text k = t := by
          unfold lineAt
          have := congrArg List.head? hdr
          rw [lines_last t hn ht] at this
          simp [List.head?_drop] at this
          simp [List.getD_eq_getElem?_getD, this]
        have hi := index_no t hn
        have w1 : Within wr (wr.setCell ⟨b, 0, none⟩ (.string ⟨#[]⟩)) (fun x => x = b) := (Within.refl _ _).put b 0 _ (.inl rfl)
        have b1 : Bk (wr.setCell ⟨b, 0, none⟩ (.string ⟨#[]⟩)) b 9 #[bs []] := hbk.put 0 _
        have hj1 := hJ k _ _ hj w1
        obtain ⟨fn, tmps, assign, body, hy, hR⟩ := hY k _ hk1 hj1 (by rintro x rfl; exact b1.lt)
        rw [hline] at hy
        unfold bs at hy
        gi_wp2
        refine ⟨trivial, rfl, ?_⟩
        refine (HI.out _).mono ?_
        rintro e w' ⟨rfl, rfl⟩
        rw [hi]
        gi_wp2
        refine ⟨rfl, hR.mono ?_⟩
        rintro e W3 ⟨hh, (⟨rfl, hJ3⟩ | ⟨rfl, hJx3⟩)⟩
        · gi_wp2
          have b3 : Bk W3 b 9 #[bs []] := (hh.2 b rfl).trans b1
          go_roundw
          case rel => exact ⟨k + 1, [], by omega, by rw [List.drop_of_length_le (by omega)]; rfl, by simp, b3, hJ3⟩
          case measure => rw [boxLen_of b3, hbl]; simp; omega
        · gi_wp2
          refine bodyPost_ret (results_none rfl _ _ _) rfl ?_
          exact ⟨⟨_, rfl⟩, .inr hJx3⟩
      · have hk1 : k < (linesL text).length := by
          have := congrArg List.length hdr
          rw [lines_more s r hn] at this
          simp at this
          omega
        have hdr2 : (linesL text).drop (k + 1) = linesL r := by
          have := congrArg List.tail hdr
          rw [lines_more s r hn] at this
          simpa [List.tail_drop] using this
        have hline : lineAt text k = s ++ [10] := by
          unfold lineAt
          have := congrArg List.head? hdr
          rw [lines_more s r hn] at this
          simp [List.head?_drop] at this
          simp [List.getD_eq_getElem?_getD, this]
        have hi := index_yes s r hn
        have hi0 : (0 : Int) ≤ s.length := by omega
        have hwr : wrap64 ((s.length : Int) + 1) = (s.length : Int) + 1 := by
          simp at hle
          unfold wrap64
          omega
        have hcut1 : ∀ w, (Instr.slice 9 (.string ⟨(s ++ 10 :: r).toArray⟩) none (some (.int .i64 ((s.length : Int) + 1))) none).run Tryd.prog w = .ok (.string ⟨(s ++ [10]).toArray⟩) w := fun w => run_lo s r w
        have hcut2 : ∀ w, (Instr.slice 9 (.string ⟨(s ++ 10 :: r).toArray⟩) (some (.int .i64 ((s.length : Int) + 1))) none none).run Tryd.prog w = .ok (.string ⟨r.toArray⟩) w := fun w => run_hi s r w
        gi_wp2
        refine ⟨trivial, rfl, ?_⟩
        refine (HI.out _).mono ?_
        rintro e w' ⟨rfl, rfl⟩
        rw [hi]
        gi_wp2
        gi_region
        have w0 : Within wr (wr.setCell ⟨b, 0, none⟩ (.string ⟨r.toArray⟩)) (fun x => x = b) := (Within.refl _ _).put b 0 _ (.inl rfl)
        have w1 : Within wr (wr.setCell ⟨b, 0, none⟩ (.string ⟨r.toArray⟩)).drew (fun x => x = b) := ⟨w0.os, w0.tape, w0.output, w0.size, w0.block⟩
        clear w0
        have b1 : Bk (wr.setCell ⟨b, 0, none⟩ (.string ⟨r.toArray⟩)).drew b 9 #[bs r] := hbk.put 0 (.string ⟨r.toArray⟩)
        generalize (wr.setCell ⟨b, 0, none⟩ (.string ⟨r.toArray⟩)).drew = W2 at *
        have hj1 := hJ k _ _ hj w1
        obtain ⟨fn, tmps, assign, body, hy, hR⟩ := hY k _ hk1 hj1 (by rintro x rfl; exact b1.lt)
        rw [hline] at hy
        unfold bs at hy
        gi_wp2
        refine ⟨rfl, hR.mono ?_⟩
        rintro e W3 ⟨hh, (⟨rfl, hJ3⟩ | ⟨rfl, hJx3⟩)⟩
        · gi_wp2
          have b3 : Bk W3 b 9 #[bs r] := (hh.2 b rfl).trans b1
          go_roundw
          case rel => exact ⟨k + 1, r, by omega, hdr2, by simp at hle; omega, b3, hJ3⟩
          case measure => rw [boxLen_of b3, hbl]; simp; omega
        · gi_wp2
          refine bodyPost_ret (results_none rfl _ _ _) rfl ?_
          exact ⟨⟨_, rfl⟩, .inr hJx3⟩

/-- A box for the string, and the closure. -/
theorem lLines (s : List UInt8) (w : World) :
    Calls Tryd.prog 17 #[bs s] w fun e w' => e = .returned (.func (.func 24) #[] #[.pointer (some ⟨w.heap.size, 0, none⟩)]) ∧ w' = w.alloc (.cells #[bs s] 9) := by
  unfold bs
  go_enter Tryd.func17, Tryd.ntmps17
  go_wp2
  go_ret
  exact ⟨rfl, rfl⟩
theorem lCut (s p : List UInt8) (hl : s.length < 1000000) (w : World) :
    Calls Tryd.prog 18 #[bs s, bs p] w fun e w' => e = .returned (.tuple #[bs (Lib.trimSuffix s p), .bool (Lib.hasSuffix s p)]) ∧ w = w' :=
  (Any.strings_CutSuffix Tryd.lays104 ⟨s.toArray⟩ ⟨p.toArray⟩ w (by show s.toArray.size ≤ _; simp; omega)).mono fun _ _ ⟨he, hw⟩ => ⟨he, hw.symm⟩
theorem suf_yes (s : List UInt8) (c : UInt8) : Lib.hasSuffix (s ++ [c]) [c] = true ∧ Lib.trimSuffix (s ++ [c]) [c] = s := by
  have h : Lib.hasSuffix (s ++ [c]) [c] = true := by
    unfold Lib.hasSuffix
    rw [List.isSuffixOf_iff_suffix]
    exact ⟨s, rfl⟩
  refine ⟨h, ?_⟩
  unfold Lib.trimSuffix
  rw [if_pos h]
  simp
theorem suf_no {s : List UInt8} {c : UInt8} (h : ∀ t, s ≠ t ++ [c]) : Lib.hasSuffix s [c] = false ∧ Lib.trimSuffix s [c] = s := by
  have h : Lib.hasSuffix s [c] = false := by
    rw [Bool.eq_false_iff]
    intro e
    unfold Lib.hasSuffix at e
    rw [List.isSuffixOf_iff_suffix] at e
    obtain ⟨t, ht⟩ := e
    exact h t ht.symm
  refine ⟨h, ?_⟩
  unfold Lib.trimSuffix
  rw [if_neg (by rw [h]; simp)]
theorem suf_or (s : List UInt8) (c : UInt8) : (∃ t, s = t ++ [c]) ∨ ∀ t, s ≠ t ++ [c] := by
  by_cases h : ∃ t, s = t ++ [c]
  · exact .inl h
  · exact .inr fun t e => h ⟨t, e⟩
end Go.Proofs.YthdgehcghklflaaDoor

/- A draft of a program: labels in a map, rows in a slice; addLabel, addRow, place. -/
namespace Go.Proofs.YthdgehcghklflaaDoor
open Go.ChangeShapes Go.WideShapes Go.ChangeAt Go.RowKit
set_option linter.unusedVariables false

/-- A row: an instruction, the name of its place, its line. -/
abbrev Rw := Ins × List UInt8 × Int
/-- A row's cells. -/
def rowC (r : Rw) : List Value := [.int .i64 r.1.op, .int .i64 r.1.d, .int .i64 r.1.s, .int .i64 r.1.t, .int .i64 r.1.u, .int .i64 r.1.a, .int .u32 r.1.k, .int .i64 r.1.pl, bs r.2.1, .int .i64 r.2.2]
theorem rowC_len (r : Rw) : (rowC r).length = 10 := rfl
def rowsC (rs : List Rw) : List Value := rs.flatMap rowC
theorem rowsC_snoc (rs : List Rw) (r : Rw) : rowsC (rs ++ [r]) = rowsC rs ++ rowC r := by simp [rowsC]
theorem rowC_one (r : Rw) : ∀ u ∈ rowC r, u.oneCell' = true := by
  intro u hu
  simp only [rowC, List.mem_cons, List.not_mem_nil, or_false] at hu
  rcases hu with rfl | rfl | rfl | rfl | rfl | rfl | rfl | rfl | rfl | rfl <;> rfl

/-- Block p is a draft: labels ls in the map m, rows rs in a row of its own at lo or beyond. -/
def Dr (w : World) (p m lo : Nat) (ls : List (List UInt8 × Int)) (rs : List Rw) : Prop :=
  ∃ v, Bk w p 52 #[v, .map (some m)] ∧ Labs w m ls ∧ w.ownsRow lo 75 10 v rs.length (rowsC rs)
section
variable {w w' : World} {p m lo : Nat} {ls : List (List UInt8 × Int)} {rs : List Rw}
theorem Dr.within {S : Nat → Prop} (h : Dr w p m lo ls rs) (k : Within w w' S) (hp : ¬ S p) (hm : ¬ S m) (hl : ∀ b, S b → b < lo) : Dr w' p m lo ls rs := by
  obtain ⟨v, h1, h2, h3⟩ := h
  refine ⟨v, h1.within k hp, h2.within k hm, own_within h3 k fun g hg hs => ?_⟩
  have := (World.ownsRow.lt h3 g hg).1
  have := hl g hs
  omega
theorem Dr.lts (h : Dr w p m lo ls rs) : p < w.heap.size ∧ m < w.heap.size := by
  obtain ⟨v, h1, h2, h3⟩ := h
  exact ⟨h1.lt, h2.lt⟩
end

/-- What a draft's calls may change. -/
abbrev InDr (p m lo : Nat) : Nat → Prop := fun b => b = p ∨ b = m ∨ lo ≤ b

section
variable {w : World} {p m lo : Nat} {ls : List (List UInt8 × Int)} {rs : List Rw}
theorem cAddLabelNo (h : Dr w p m lo ls rs) (s : List UInt8) (hs : s.length ≤ 1000000) (hk : labB ls s = true) :
    Calls Tryd.prog 20 #[.pointer (some ⟨p, 0, none⟩), bs s] w fun e w' => e = .returned (.int .i64 2) ∧ w = w' := by
  obtain ⟨v, h1, h2, h3⟩ := h
  have hl := h2.look s hs
  rw [hk] at hl
  have c0 : w.cell? ⟨p, 0, none⟩ = some v := h1.cell 0
  have c1 : w.cell? ⟨p, 1, none⟩ = some (.map (some m)) := h1.cell 1
  unfold bs
  go_enter Tryd.func20, Tryd.ntmps20
  go_wp2
  go_ret
  exact ⟨rfl, rfl⟩

theorem cAddLabel (h : Dr w p m lo ls rs) (s : List UInt8) (hs : s.length ≤ 1000000) (hn : ls.length < 1000000) (hr : rs.length ≤ 64) (hk : labB ls s = false) :
    Calls Tryd.prog 20 #[.pointer (some ⟨p, 0, none⟩), bs s] w fun e w' => e = .returned (.int .i64 0) ∧ Dr w' p m lo (ls ++ [(s, (rs.length : Int))]) rs ∧ Within w w' (InDr p m lo) := by
  obtain ⟨v, h1, h2, h3⟩ := h
  have hl := h2.look s hs
  rw [hk] at hl
  obtain ⟨a, cap, rfl, hcap, hmax, _⟩ := own_is h3
  have c0 : w.cell? ⟨p, 0, none⟩ = some (.slice a rs.length cap) := h1.cell 0
  have c1 : w.cell? ⟨p, 1, none⟩ = some (.map (some m)) := h1.cell 1
  have h2d : Labs w.drew m ls := h2.same rfl
  obtain ⟨w1, hrun, hL, hO⟩ := h2d.add hn hs (p := (rs.length : Int)) (by omega) (by omega) hk
  have hmp := h2.not_bk h1
  have hw1 : Within w w1 (fun b => b = m) := by
    have : Within w.drew w1 (fun b => b = m) := .of_grown hO (by rintro i e; cases e; exact .inl rfl)
    exact ⟨this.os, this.tape, this.output, this.size, this.block⟩
  unfold bs
  go_enter Tryd.func20, Tryd.ntmps20
  go_wp2
  go_region
  go_wp2
  go_ret
  refine ⟨rfl, ⟨_, h1.within hw1 (fun e => hmp e.symm), hL, own_within h3 hw1 fun g hg e => ?_⟩, hw1.wide fun i hi _ => .inr (.inl hi)⟩
  obtain ⟨cs, hb⟩ := own_bk h3 hg
  exact h2.not_bk hb e.symm

/-- The value of a row. -/
def rvA (r : Rw) : Value := .agg #[.int .i64 r.1.op, .int .i64 r.1.d, .int .i64 r.1.s, .int .i64 r.1.t, .int .i64 r.1.u, .int .i64 r.1.a, .int .u32 r.1.k, .int .i64 r.1.pl, bs r.2.1, .int .i64 r.2.2]
theorem rowInfo : (Tryd.prog.info? 75).map (fun i => (i.zero, i.size, i.bytes)) = some (some (.agg #[.int .i64 0, .int .i64 0, .int .i64 0, .int .i64 0, .int .i64 0, .int .i64 0, .int .u32 0, .int .i64 0, bs [], .int .i64 0]), 10, 88) := by kernel_rfl

theorem cAddRowNo (h : Dr w p m lo ls rs) (hr : rs.length = 64) (r : Rw) :
    Calls Tryd.prog 22 #[.pointer (some ⟨p, 0, none⟩), rvA r] w fun e w' => e = .returned (.int .i64 9) ∧ Below w.heap.size w w' := by
  obtain ⟨v, h1, h2, h3⟩ := h
  obtain ⟨a, cap, rfl, hcap, hmax, _⟩ := own_is h3
  rw [hr] at h1
  obtain ⟨⟨op, d, s, t, u, a', k, pl⟩, nm, ln⟩ := r
  have hb : Below w.heap.size w (w.alloc (.cells #[.int .i64 op, .int .i64 d, .int .i64 s, .int .i64 t, .int .i64 u, .int .i64 a', .int .u32 k, .int .i64 pl, .string ⟨nm.toArray⟩, .int .i64 ln] 75)) := (Below.refl _ _).alloc (Nat.le_refl _) _
  have c0 : (w.alloc (.cells #[.int .i64 op, .int .i64 d, .int .i64 s, .int .i64 t, .int .i64 u, .int .i64 a', .int .u32 k, .int .i64 pl, .string ⟨nm.toArray⟩, .int .i64 ln] 75)).cell? ⟨p, 0, none⟩ = some (.slice a 64 cap) := (h1.alloc _).cell 0
  unfold rvA bs
  simp only
  go_enter Tryd.func22, Tryd.ntmps22
  go_wp2
  go_ret
  exact ⟨rfl, hb⟩

theorem row_end {w W w' : World} {v v2 : Value} {o : Obj} {r : Rw} (hW : Within w W (fun _ => False)) (q1 : Bk W p 52 #[v, .map (some m)]) (q2 : Labs W m ls) (q3 : W.ownsRow lo 75 10 v rs.length (rowsC rs))
    (hgr : (W.drew.alloc o).grownBy w' v.ownBlock) (hown : w'.ownsRow lo 75 10 v2 (rs.length + 1) (rowsC rs ++ rowC r)) :
    Dr (w'.setCell ⟨p, 0, none⟩ v2) p m lo ls (rs ++ [r]) ∧ Within w (w'.setCell ⟨p, 0, none⟩ v2) (InDr p m lo) := by
  have hmp := q2.not_bk q1
  have hA : Within W (W.drew.alloc o) (fun _ => False) := ((Within.refl W _).draws 1).alloc o
  have hB : Within (W.drew.alloc o) w' (fun b => some b = v.ownBlock) := .of_grown hgr (by rintro i e; exact .inl e.symm)
  have hC : Within W w' (fun b => some b = v.ownBlock) := (hA.wide (by simp)).then_ hB (by rintro i e; exact .inl e)
  have q1' : Bk w' p _ _ := q1.within hC fun e => by
    obtain ⟨cs, hb⟩ := own_bk q3 e.symm
    exact Bk.unlike hb q1 (by decide) rfl
  have q2' : Labs w' m ls := q2.within hC fun e => by
    obtain ⟨cs, hb⟩ := own_bk q3 e.symm
    exact q2.not_bk hb rfl
  refine ⟨⟨v2, q1'.put 0 v2, q2'.within ((Within.refl w' (fun b => b = p)).put p 0 v2 (.inl rfl)) hmp, ?_⟩, ?_⟩
  · rw [rowsC_snoc, List.length_append]
    refine own_within hown ((Within.refl w' (fun b => b = p)).put p 0 v2 (.inl rfl)) fun g hg e => ?_
    obtain ⟨cs, hb⟩ := own_bk hown hg
    exact Bk.unlike hb q1' (by decide) e
  · refine Within.put ((hW.wide (by simp)).then_ hC fun i e => .inl (.inr (.inr ?_))) p 0 v2 (.inl (.inl rfl))
    exact (World.ownsRow.lt q3 i e.symm).1

set_option maxHeartbeats 1000000 in
theorem cAddRow (h : Dr w p m lo ls rs) (hr : rs.length < 64) (hlo : lo ≤ w.heap.size) (r : Rw) :
    Calls Tryd.prog 22 #[.pointer (some ⟨p, 0, none⟩), rvA r] w fun e w' => e = .returned (.int .i64 0) ∧ Dr w' p m lo ls (rs ++ [r]) ∧ Within w w' (InDr p m lo) := by
  obtain ⟨v, h1, h2, h3⟩ := h
  obtain ⟨a, cap, rfl, hcap, hmax, _⟩ := own_is h3
  obtain ⟨⟨op, d, s, t, u, a', k, pl⟩, nm, ln⟩ := r
  have hw0 : Within w (w.alloc (.cells #[.int .i64 op, .int .i64 d, .int .i64 s, .int .i64 t, .int .i64 u, .int .i64 a', .int .u32 k, .int .i64 pl, .string ⟨nm.toArray⟩, .int .i64 ln] 75)) (fun _ => False) := (Within.refl _ _).alloc _
  have b0 := Bk.made w 75 #[.int .i64 op, .int .i64 d, .int .i64 s, .int .i64 t, .int .i64 u, .int .i64 a', .int .u32 k, .int .i64 pl, .string ⟨nm.toArray⟩, .int .i64 ln]
  have q1 := h1.within hw0 (by simp)
  have q2 := h2.within hw0 (by simp)
  have q3 := own_within h3 hw0 (by simp)
  have hlt : ((rs.length : Int) == 64) = false := by simp; omega
  have hst : Hid (w.heap.size < (w.alloc (.cells #[.int .i64 op, .int .i64 d, .int .i64 s, .int .i64 t, .int .i64 u, .int .i64 a', .int .u32 k, .int .i64 pl, .string ⟨nm.toArray⟩, .int .i64 ln] 75)).heap.size) := Lib.hid b0.lt
  unfold rvA bs
  simp only
  go_enter Tryd.func22, Tryd.ntmps22
  go_upto_region 1 with fail
  generalize hg : w.heap.size = g at *
  generalize w.alloc (.cells #[.int .i64 op, .int .i64 d, .int .i64 s, .int .i64 t, .int .i64 u, .int .i64 a', .int .u32 k, .int .i64 pl, .string ⟨nm.toArray⟩, .int .i64 ln] 75) = W at *
  have c0 : W.cell? ⟨p, 0, none⟩ = some (.slice a rs.length cap) := q1.cell 0
  have f0 := q1.free 0
  have hne : ∀ g, (Value.slice a rs.length cap).ownBlock = some g → g ≠ p := fun g' hg' e => by
    obtain ⟨cs, hb⟩ := own_bk q3 hg'
    exact Bk.unlike hb q1 (by decide) e
  go_wp2
  obtain ⟨e0, e1, e2, e3, e4, e5, e6, e7, e8, e9⟩ : W.cell? ⟨g, 0, none⟩ = some (.int .i64 op) ∧ W.cell? ⟨g, 1, none⟩ = some (.int .i64 d) ∧ W.cell? ⟨g, 2, none⟩ = some (.int .i64 s) ∧ W.cell? ⟨g, 3, none⟩ = some (.int .i64 t) ∧ W.cell? ⟨g, 4, none⟩ = some (.int .i64 u) ∧ W.cell? ⟨g, 5, none⟩ = some (.int .i64 a') ∧ W.cell? ⟨g, 6, none⟩ = some (.int .u32 k) ∧ W.cell? ⟨g, 7, none⟩ = some (.int .i64 pl) ∧ W.cell? ⟨g, 8, none⟩ = some (.string ⟨nm.toArray⟩) ∧ W.cell? ⟨g, 9, none⟩ = some (.int .i64 ln) :=
    ⟨b0.cell 0, b0.cell 1, b0.cell 2, b0.cell 3, b0.cell 4, b0.cell 5, b0.cell 6, b0.cell 7, b0.cell 8, b0.cell 9⟩
  have hA : (W.drew.alloc (.cells #[.int .i64 op, .int .i64 d, .int .i64 s, .int .i64 t, .int .i64 u, .int .i64 a', .int .u32 k, .int .i64 pl, .string ⟨nm.toArray⟩, .int .i64 ln] 75)).ownsRow lo 75 10 (.slice a rs.length cap) rs.length (rowsC rs) := World.ownsRow.alloc (w := W.drew) q3 _
  have hN := Bk.made W.drew 75 #[.int .i64 op, .int .i64 d, .int .i64 s, .int .i64 t, .int .i64 u, .int .i64 a', .int .u32 k, .int .i64 pl, .string ⟨nm.toArray⟩, .int .i64 ln]
  have hl2 : lo ≤ (W.drew.alloc (.cells #[.int .i64 op, .int .i64 d, .int .i64 s, .int .i64 t, .int .i64 u, .int .i64 a', .int .u32 k, .int .i64 pl, .string ⟨nm.toArray⟩, .int .i64 ln] 75)).heap.size := by
    have := hst.out
    rw [World.size_alloc]
    show lo ≤ W.heap.size + 1
    omega
  have HL2 := Lib.hid hl2
  have HN := Lib.hid (news_bk hN)
  have HA := Lib.hid hA
  have HNE : Hid (∀ b, some b = (Value.slice a rs.length cap).ownBlock → b ≠ p) := Lib.hid fun b e => hne b e.symm
  have HQ : ∀ (w' : World), (W.drew.alloc (.cells #[.int .i64 op, .int .i64 d, .int .i64 s, .int .i64 t, .int .i64 u, .int .i64 a', .int .u32 k, .int .i64 pl, .string ⟨nm.toArray⟩, .int .i64 ln] 75)).grownBy w' (Value.slice a rs.length cap).ownBlock → Bk w' p 52 #[.slice a rs.length cap, .map (some m)] :=
    fun w' hg => Bk.grown (Bk.alloc (w := W.drew) q1 _) hg fun e => hne p e.symm rfl
  have rb : ∀ o, (W.alloc o).cell? ⟨p, 0, none⟩ = some (.slice a rs.length cap) := fun o => (q1.alloc o).cell 0
  have HEND : Hid (∀ (w' : World) (v2 : Value), (W.drew.alloc (.cells #[.int .i64 op, .int .i64 d, .int .i64 s, .int .i64 t, .int .i64 u, .int .i64 a', .int .u32 k, .int .i64 pl, .string ⟨nm.toArray⟩, .int .i64 ln] 75)).grownBy w' (Value.slice a rs.length cap).ownBlock → w'.ownsRow lo 75 10 v2 (rs.length + 1) (rowsC rs ++ rowC (⟨op, d, s, t, u, a', k, pl⟩, nm, ln)) →
      Dr (w'.setCell ⟨p, 0, none⟩ v2) p m lo ls (rs ++ [(⟨op, d, s, t, u, a', k, pl⟩, nm, ln)]) ∧ Within w (w'.setCell ⟨p, 0, none⟩ v2) (InDr p m lo)) := Lib.hid fun w' v2 hg ho => row_end hw0 q1 q2 q3 hg ho
  clear hl2 hN hA
  go_region_law (refine step_own rfl (.tmp 15) (.tmp 17) 50 rfl _ 88 Tryd.underlying50 rowInfo rfl (by omega) (by omega) HA.out (by simp [Act.eval]) (rowC (⟨op, d, s, t, u, a', k, pl⟩, nm, ln)) rfl (rowC_one _) W.heap.size (by simp [Act.eval]) HN.out (by omega) HL2.out ?_; intro v' w' hown hgr hloc; have q1' := HQ w' hgr; have c0' : w'.cell? ⟨p, 0, none⟩ = some (.slice a rs.length cap) := q1'.cell 0; have f0' := q1'.free 0; obtain ⟨a2, cap2, rfl, _, _, _⟩ := own_is hown)
  all_goals (
    go_wp2
    go_ret
    exact ⟨rfl, HEND.out _ _ hgr hown⟩)

/-- What place answers. -/
def placeV (ls : List (List UInt8 × Int)) (s : List UInt8) (n : Int) : Value := if labB ls s = true ∧ labAt ls s ≠ n then .tuple #[.int .i64 (labAt ls s), .bool true] else .tuple #[.int .i64 0, .bool false]
theorem cPlace (h : Dr w p m lo ls rs) (s : List UInt8) (hs : s.length ≤ 1000000) :
    Calls Tryd.prog 23 #[.pointer (some ⟨p, 0, none⟩), bs s] w fun e w' => e = .returned (placeV ls s rs.length) ∧ w = w' := by
  obtain ⟨v, h1, h2, h3⟩ := h
  have hl := h2.look s hs
  obtain ⟨a, cap, rfl, hcap, hmax, _⟩ := own_is h3
  have c0 : w.cell? ⟨p, 0, none⟩ = some (.slice a rs.length cap) := h1.cell 0
  have c1 : w.cell? ⟨p, 1, none⟩ = some (.map (some m)) := h1.cell 1
  have HE : Hid (placeV ls s rs.length = if labB ls s = true ∧ labAt ls s ≠ (rs.length : Int) then .tuple #[.int .i64 (labAt ls s), .bool true] else .tuple #[.int .i64 0, .bool false]) := Lib.hid rfl
  generalize placeV ls s rs.length = res at *
  generalize labAt ls s = x at *
  generalize labB ls s = q at *
  generalize rs.length = n at *
  unfold bs
  cases q with
  | false =>
    go_enter Tryd.func23, Tryd.ntmps23
    go_wp2
    go_ret2
    exact ⟨by rw [HE.out]; rfl, rfl⟩
  | true =>
    by_cases e : x = (n : Int)
    · have e1 : (x == (n : Int)) = true := by simpa using e
      have E := Lib.hid e
      clear e
      go_enter Tryd.func23, Tryd.ntmps23
      go_wp2
      go_ret2
      exact ⟨by rw [HE.out, if_neg (by simp [E.out])]; rfl, rfl⟩
    · have e1 : (x == (n : Int)) = false := by simpa using e
      have E := Lib.hid e
      clear e
      go_enter Tryd.func23, Tryd.ntmps23
      go_wp2
      go_ret2
      exact ⟨by rw [HE.out, if_pos ⟨trivial, E.out⟩]; rfl, rfl⟩
end
end Go.Proofs.YthdgehcghklflaaDoor

/- Programs in memory: a slice of instructions that lies anywhere; alike or not. -/
namespace Go.Proofs.YthdgehcghklflaaDoor
open Go.ChangeShapes Go.WideShapes Go.ChangeAt Go.RowKit
set_option linter.unusedVariables false

/-- The slice at a has just the instructions l. -/
def Sli (w : World) (a : Option Addr) (l : List Ins) : Prop :=
  0 < l.length → ∃ b off, a = some ⟨b, off, none⟩ ∧ b < w.heap.size ∧ ∀ k i, l[k]? = some i → ∀ j, j < 8 → w.cell? ⟨b, off + k * 8 + j, none⟩ = (insC i)[j]?
/-- The value v is the program c; its instructions may lie anywhere. -/
def Pv (w : World) (v : Value) (c : Prg) : Prop := ∃ a cap, v = .agg #[.slice a c.l.length cap, .int .i64 c.lo, .int .i64 c.un] ∧ c.l.length ≤ cap ∧ cap ≤ maxLen ∧ (a = none → cap = 0) ∧ Sli w a c.l
section
variable {w w' : World} {a : Option Addr} {l : List Ins} {v : Value} {c : Prg}
theorem Sli.below (h : Sli w a l) (hb : Below w.heap.size w w') : Sli w' a l := by
  intro h0
  obtain ⟨b, off, e, hlt, hc⟩ := h h0
  exact ⟨b, off, e, Nat.lt_of_lt_of_le hlt hb.size, fun k i hk j hj => (hb.cell (p := ⟨b, off + k * 8 + j, none⟩) hlt).trans (hc k i hk j hj)⟩
theorem Pv.below (h : Pv w v c) (hb : Below w.heap.size w w') : Pv w' v c := by
  obtain ⟨a, cap, e, h1, h2, h4, h3⟩ := h
  exact ⟨a, cap, e, h1, h2, h4, h3.below hb⟩
theorem sli_own {t : TypeId} {base cap : Nat} (h : w.ownsRow base t 8 (.slice a l.length cap) l.length (progC l)) : Sli w a l := by
  intro h0
  obtain ⟨a2, cap2, e, _, _, hg⟩ := own_is h
  simp only [Value.slice.injEq] at e
  obtain ⟨rfl, -, rfl⟩ := e
  obtain ⟨g, rfl, _, _, hlt, _, hc⟩ := hg h0
  refine ⟨g, 0, rfl, hlt, fun k i hk j hj => ?_⟩
  have hkl := (List.getElem?_eq_some_iff.1 hk).1
  rw [Nat.zero_add, hc _ (by omega), progC_at hk hj]
theorem own_nil {t : TypeId} {base n cap size : Nat} {xs : List Value} (h : w.ownsRow base t size (.slice a n cap) n xs) (e : a = none) : cap = 0 := by
  subst e
  rcases h.2 with ⟨h, _⟩ | ⟨g, c, cur, h, _⟩
  · injection h
  · injection h with h; cases h
/-- Instruction k's cells. -/
theorem Sli.at_ (h : Sli w a l) {k : Nat} {i : Ins} (hk : l[k]? = some i) : ∃ b off, a = some ⟨b, off, none⟩ ∧ b < w.heap.size ∧ w.cell? ⟨b, off + k * 8, none⟩ = some (.int .i64 i.op) ∧ w.cell? ⟨b, off + k * 8 + 1, none⟩ = some (.int .i64 i.d) ∧ w.cell? ⟨b, off + k * 8 + 2, none⟩ = some (.int .i64 i.s) ∧ w.cell? ⟨b, off + k * 8 + 3, none⟩ = some (.int .i64 i.t) ∧
    w.cell? ⟨b, off + k * 8 + 4, none⟩ = some (.int .i64 i.u) ∧ w.cell? ⟨b, off + k * 8 + 5, none⟩ = some (.int .i64 i.a) ∧ w.cell? ⟨b, off + k * 8 + 6, none⟩ = some (.int .u32 i.k) ∧ w.cell? ⟨b, off + k * 8 + 7, none⟩ = some (.int .i64 i.pl) := by
  have hkl := (List.getElem?_eq_some_iff.1 hk).1
  obtain ⟨b, off, e, hlt, hc⟩ := h (by omega)
  exact ⟨b, off, e, hlt, hc k i hk 0 (by omega), hc k i hk 1 (by omega), hc k i hk 2 (by omega), hc k i hk 3 (by omega), hc k i hk 4 (by omega), hc k i hk 5 (by omega), hc k i hk 6 (by omega), hc k i hk 7 (by omega)⟩
end

/-- Alike or not. -/
def sameL : List Ins → List Ins → Bool
  | [], [] => true
  | i :: l, j :: m => eqI i j && sameL l m
  | _, _ => false
theorem sameL_iff : ∀ l m : List Ins, sameL l m = true ↔ l = m
  | [], [] => by simp [sameL]
  | [], _ :: _ => by simp [sameL]
  | _ :: _, [] => by simp [sameL]
  | i :: l, j :: m => by simp [sameL, eqI_iff, sameL_iff l m]
theorem sameL_len {l m : List Ins} (h : l.length ≠ m.length) : sameL l m = false := by
  rw [Bool.eq_false_iff]
  intro e
  exact h (by rw [(sameL_iff l m).1 e])
def sameP (c d : Prg) : Bool := decide (c.lo = d.lo) && (decide (c.un = d.un) && sameL c.l d.l)
theorem sameP_iff (c d : Prg) : sameP c d = true ↔ c = d := by
  obtain ⟨l, lo, un⟩ := c
  obtain ⟨m, lo2, un2⟩ := d
  simp [sameP, sameL_iff]
  constructor
  · rintro ⟨h1, h2, h3⟩; exact ⟨h3, h1, h2⟩
  · rintro ⟨h1, h2, h3⟩; exact ⟨h2, h3, h1⟩
theorem sameL_drop (l m : List Ins) (k : Nat) (hk : k < l.length) (hm : k < m.length) : sameL (l.drop k) (m.drop k) = (eqI l[k] m[k] && sameL (l.drop (k + 1)) (m.drop (k + 1))) := by
  rw [List.drop_eq_getElem_cons hk, List.drop_eq_getElem_cons hm, sameL]
end Go.Proofs.YthdgehcghklflaaDoor
