/- inst.Right. -/
import Derived.Test.YtpinpipjlongaaaInstA
import Derived.Test.YtpinpipjlongaaaGrow
import Derived.Deep.RegionLaw
namespace Go.Proofs.Ytpinpipjlongaaa
open Go.ChangeShapes Go.WideShapes Go.ChangeAt Go.RowKit
set_option linter.unusedVariables false

theorem run_eqI (i j : Ins) (w : World) : (binOp .eql 55 (iv i) (iv j)).run Try.prog w = .ok (.bool (eqI i j)) w := by
  unfold iv
  have hu := Try.underlying55
  go_simp
  unfold eqI
  repeat' split
  all_goals simp [*]

/-- Block g is the instruction i. -/
def Ib (w : World) (g : Nat) (i : Ins) : Prop := Bk w g 55 #[.int .i64 i.op, .int .i64 i.d, .int .i64 i.s, .int .i64 i.t, .int .i64 i.u, .int .i64 i.a, .int .u32 i.k, .int .i64 i.pl]
theorem Ib.cells {w : World} {g : Nat} {i : Ins} (h : Ib w g i) :
    w.cell? ⟨g, 0, none⟩ = some (.int .i64 i.op) ∧ w.cell? ⟨g, 1, none⟩ = some (.int .i64 i.d) ∧ w.cell? ⟨g, 2, none⟩ = some (.int .i64 i.s) ∧ w.cell? ⟨g, 3, none⟩ = some (.int .i64 i.t) ∧
    w.cell? ⟨g, 4, none⟩ = some (.int .i64 i.u) ∧ w.cell? ⟨g, 5, none⟩ = some (.int .i64 i.a) ∧ w.cell? ⟨g, 6, none⟩ = some (.int .u32 i.k) ∧ w.cell? ⟨g, 7, none⟩ = some (.int .i64 i.pl) :=
  ⟨Bk.cell h 0, Bk.cell h 1, Bk.cell h 2, Bk.cell h 3, Bk.cell h 4, Bk.cell h 5, Bk.cell h 6, Bk.cell h 7⟩
theorem Ib.below {w w' : World} {g : Nat} {i : Ins} (h : Ib w g i) (hb : Below w.heap.size w w') : Ib w' g i := (hb.block g (Bk.lt h)).trans h

theorem Ib.grw {w : World} {b : Nat} {i : Ins} (h : Ib w b i) :
    (∀ g : Grw w, g.x.cell? ⟨b, 0, none⟩ = some (.int .i64 i.op)) ∧ (∀ g : Grw w, g.x.cell? ⟨b, 1, none⟩ = some (.int .i64 i.d)) ∧ (∀ g : Grw w, g.x.cell? ⟨b, 2, none⟩ = some (.int .i64 i.s)) ∧ (∀ g : Grw w, g.x.cell? ⟨b, 3, none⟩ = some (.int .i64 i.t)) ∧
    (∀ g : Grw w, g.x.cell? ⟨b, 4, none⟩ = some (.int .i64 i.u)) ∧ (∀ g : Grw w, g.x.cell? ⟨b, 5, none⟩ = some (.int .i64 i.a)) ∧ (∀ g : Grw w, g.x.cell? ⟨b, 6, none⟩ = some (.int .u32 i.k)) ∧ (∀ g : Grw w, g.x.cell? ⟨b, 7, none⟩ = some (.int .i64 i.pl)) := by
  obtain ⟨c0, c1, c2, c3, c4, c5, c6, c7⟩ := h.cells
  exact ⟨fun g => g.cell c0, fun g => g.cell c1, fun g => g.cell c2, fun g => g.cell c3, fun g => g.cell c4, fun g => g.cell c5, fun g => g.cell c6, fun g => g.cell c7⟩

theorem Ib.made (w : World) (op d s t u a k pl : Int) : Ib (w.alloc (.cells #[.int .i64 op, .int .i64 d, .int .i64 s, .int .i64 t, .int .i64 u, .int .i64 a, .int .u32 k, .int .i64 pl] 55)) w.heap.size ⟨op, d, s, t, u, a, k, pl⟩ := Bk.made _ _ _
theorem boxed {w x : World} {op d s t u a k pl : Int} (h : Below (w.alloc (.cells #[.int .i64 op, .int .i64 d, .int .i64 s, .int .i64 t, .int .i64 u, .int .i64 a, .int .u32 k, .int .i64 pl] 55)).heap.size (w.alloc (.cells #[.int .i64 op, .int .i64 d, .int .i64 s, .int .i64 t, .int .i64 u, .int .i64 a, .int .u32 k, .int .i64 pl] 55)) x) : Ib x w.heap.size ⟨op, d, s, t, u, a, k, pl⟩ ∧ Below w.heap.size w x :=
  ⟨(Ib.made w op d s t u a k pl).below h, ((Below.refl _ _).alloc (Nat.le_refl _) _).trans (h.mono (by simp))⟩

/-- Block g is stored into, field by field. -/
def put8 (y : World) (g : Nat) (i : Ins) : World := ((((((((y.setCell ⟨g, 0, none⟩ (.int .i64 i.op)).setCell ⟨g, 1, none⟩ (.int .i64 i.d)).setCell ⟨g, 2, none⟩ (.int .i64 i.s)).setCell ⟨g, 3, none⟩ (.int .i64 i.t)).setCell ⟨g, 4, none⟩ (.int .i64 i.u)).setCell ⟨g, 5, none⟩ (.int .i64 i.a)).setCell ⟨g, 6, none⟩ (.int .u32 i.k)).setCell ⟨g, 7, none⟩ (.int .i64 i.pl))
theorem put8_ib {y : World} {g : Nat} {i j : Ins} (h : Ib y g j) : Ib (put8 y g i) g i := by
  have h8 := (((((((Bk.put h 0 (.int .i64 i.op)).put 1 (.int .i64 i.d)).put 2 (.int .i64 i.s)).put 3 (.int .i64 i.t)).put 4 (.int .i64 i.u)).put 5 (.int .i64 i.a)).put 6 (.int .u32 i.k)).put 7 (.int .i64 i.pl)
  unfold put8 Ib
  simpa only [List.setIfInBounds_toArray, List.set_cons_zero, List.set_cons_succ] using h8
theorem put8_off {y : World} {g b : Nat} {i : Ins} {t : TypeId} {cs : Array Value} (h : Bk y b t cs) (hne : b ≠ g) : Bk (put8 y g i) b t cs :=
  (((((((h.off hne _).off hne _).off hne _).off hne _).off hne _).off hne _).off hne _).off hne _
theorem put8_below {B : Nat} {w y : World} {g : Nat} {i : Ins} (h : Below B w y) (hg : B ≤ g) : Below B w (put8 y g i) :=
  (((((((h.setCell hg _).setCell hg _).setCell hg _).setCell hg _).setCell hg _).setCell hg _).setCell hg _).setCell hg _

/-- A letter of what an Op has. -/
def ltrAt (op : Int) (n : Nat) : Int := ((hsL op).getD n 0).toNat

theorem clr_snoc (i : Ins) (l : List UInt8) (n : Nat) (h : n < l.length) : clr i (l.take (n + 1)) = setI (clr i (l.take n)) (l.getD n 0).toNat 0 := by
  unfold clr
  rw [List.take_succ_eq_append_getElem h, List.foldl_append]
  simp [h]

theorem clr_k (i : Ins) (l : List UInt8) (k0 : 0 ≤ i.k) (k1 : i.k < 4294967296) : 0 ≤ (clr i l).k ∧ (clr i l).k < 4294967296 := by
  have key : ∀ (l : List UInt8) (j : Ins), 0 ≤ j.k → j.k < 4294967296 → 0 ≤ (l.foldl (fun x c => setI x c.toNat 0) j).k ∧ (l.foldl (fun x c => setI x c.toNat 0) j).k < 4294967296 := by
    intro l
    induction l with
    | nil => intro j h0 h1; exact ⟨h0, h1⟩
    | cons c l ih =>
      intro j h0 h1
      refine ih _ ?_ ?_
      all_goals
        unfold setI
        simp only [apply_ite Ins.k]
        repeat' split
        all_goals omega
  exact key l _ k0 k1

theorem run_ltr (hs : List UInt8) (n : Nat) (h : n < hs.length) (w : World) : (Instr.index 9 (.string ⟨hs.toArray⟩) (.int .i64 n)).run Try.prog w = .ok (.int .u8 ((hs.getD n 0).toNat : Int)) w := by
  have hu := Try.underlying9
  have h2 : (n : Int) < (hs.length : Int) := by omega
  go_simp
  rfl

theorem all_snoc (f : UInt8 → Bool) (l : List UInt8) (n : Nat) (h : n < l.length) : (l.take (n + 1)).all f = ((l.take n).all f && f (l.getD n 0)) := by
  rw [List.take_succ_eq_append_getElem h, List.all_append]
  simp [h]
theorem all_no (f : UInt8 → Bool) (l : List UInt8) (n : Nat) (h : n < l.length) (hf : f (l.getD n 0) = false) : l.all f = false := by
  rw [Bool.eq_false_iff]
  intro ha
  have := List.all_eq_true.1 ha (l.getD n 0) (by simp [h])
  rw [hf] at this
  cases this

/-- The world at the head of a round of Right. -/
structure RightAt (w : World) (i : Ins) (hs : List UInt8) (p : Int) (n : Nat) (x : World) : Prop where
  below : Below w.heap.size w x
  box : Ib x w.heap.size i
  left : Ib x (w.heap.size + 1) (clr i (hs.take n))
  ok : (hs.take n).all (fun c => inB i p c.toNat) = true

set_option maxHeartbeats 1000000 in
theorem cRight (i : Ins) (p : Int) (k0 : 0 ≤ i.k) (k1 : i.k < 4294967296) (w : World) :
    Calls Try.prog 29 #[iv i, .int .i64 p] w fun e w' => e = .returned (.bool (rightB i p)) ∧ Below w.heap.size w w' := by
  have hL := hs_ltr i.op
  have h6 := hs_len i.op
  have ER : rightB i p = (!(hsL i.op).isEmpty && ((hsL i.op).all (fun c => inB i p c.toNat) && isZ (clr i (hsL i.op)))) := rfl
  have H0 := Lib.hid (cForm i.op)
  generalize hsL i.op = hs at hL h6 ER H0
  have HL := Lib.hid hL
  have HR := Lib.hid ER
  clear hL ER
  obtain ⟨op, d, s, t, u, a, k, pl⟩ := i
  simp only at k0 k1 H0
  unfold iv
  go_enter Try.func29, Try.ntmps29
  go_wp2_with fail
  refine (H0.out _).mono ?_
  rintro e w' ⟨rfl, rfl⟩
  unfold bs
  by_cases he : hs = []
  · subst he
    go_wp2
    go_ret
    exact ⟨ret_bool HR.out.symm, (Below.refl _ _).alloc (Nat.le_refl _) _⟩
  have hne : hs.isEmpty = false := by simpa using he
  go_wp2
  go_loopw [24] (fun v x => ∃ n : Nat, n ≤ hs.length ∧ v = .int .i64 n ∧ RightAt w ⟨op, d, s, t, u, a, k, pl⟩ hs p n x) (fun v _ => hs.length - (intOf v).toNat)
  case atStart => 
    refine ⟨0, Nat.zero_le _, rfl, ?_, ?_, ?_, rfl⟩
    · exact (((Below.refl _ _).alloc (Nat.le_refl _) _).alloc (by simp) _)
    · exact (Bk.made _ _ _).alloc _
    · have := Bk.made (w.alloc (.cells #[.int .i64 op, .int .i64 d, .int .i64 s, .int .i64 t, .int .i64 u, .int .i64 a, .int .u32 k, .int .i64 pl] 55)) 55 #[.int .i64 0, .int .i64 d, .int .i64 s, .int .i64 t, .int .i64 u, .int .i64 a, .int .u32 k, .int .i64 pl]
      rw [show (w.alloc (.cells #[.int .i64 op, .int .i64 d, .int .i64 s, .int .i64 t, .int .i64 u, .int .i64 a, .int .u32 k, .int .i64 pl] 55)).heap.size = w.heap.size + 1 by simp] at this
      exact this
  case round =>
    obtain ⟨n, hn, rfl, R⟩ := hrel
    obtain ⟨hb, hI, hZ, hok⟩ := R
    generalize wr = x at *
    have hlt1 : w.heap.size < x.heap.size := Bk.lt hI
    have hlt2 : w.heap.size + 1 < x.heap.size := Bk.lt hZ
    by_cases hlt : n < hs.length
    · have hidx := run_ltr hs n hlt
      have hc : Ltr ((hs.getD n 0).toNat : Int) := HL.out _ (by simp [hlt])
      generalize hcc : ((hs.getD n 0).toNat : Int) = c at hidx hc
      obtain ⟨g0, -⟩ := hI.grw
      have HC := Lib.hid hcc
      clear hcc
      go_wp2_with fail
      refine wp_region_grow (by kernel_rfl) (by kernel_rfl) ?_
      repeat (go_big_quiet_step ((go_at_call 48; exact grw_same (cBounds _ _ _ hc _))))
      refine wpQuiet_nil ?_
      rintro y ⟨⟨_, hy⟩, rfl⟩
      replace hb := hb.trans (hy.mono (Nat.le_of_lt hlt1))
      replace hI := hI.below hy
      replace hZ := hZ.below hy
      replace hlt1 : w.heap.size < y.heap.size := Bk.lt hI
      replace hlt2 : w.heap.size + 1 < y.heap.size := Bk.lt hZ
      clear g0 hy x
      obtain ⟨g0, g1, g2, g3, g4, g5, g6, g7⟩ := hI.grw
      simp only at g0 g1 g2 g3 g4 g5 g6 g7
      go_wp2_with fail
      refine wp_region_grow (by kernel_rfl) (by kernel_rfl) ?_
      repeat (go_big_quiet_step ((go_at_call 49; exact grw_call (cGet ⟨op, d, s, t, u, a, k, pl⟩ _ hc k0 k1 _))))
      refine wpQuiet_nil ?_
      rintro x ⟨⟨_, hx⟩, rfl⟩
      replace hb := hb.trans (hx.mono (Nat.le_of_lt hlt1))
      replace hI := hI.below hx
      replace hZ := hZ.below hx
      replace hlt1 : w.heap.size < x.heap.size := Bk.lt hI
      replace hlt2 : w.heap.size + 1 < x.heap.size := Bk.lt hZ
      clear g0 g1 g2 g3 g4 g5 g6 g7 hx y
      by_cases hlo : getI ⟨op, d, s, t, u, a, k, pl⟩ c < lowI op c
      · go_wp2
        go_ret
        refine ⟨ret_bool ?_, hb⟩
        rw [HR.out, all_no _ _ n hlt (by rw [HC.out]; simp [inB]; intro h; omega)]; simp
      have hlo' : decide (getI ⟨op, d, s, t, u, a, k, pl⟩ c < lowI op c) = false := by simpa using hlo
      by_cases hhi : endI op c p ≤ getI ⟨op, d, s, t, u, a, k, pl⟩ c
      · go_wp2
        go_ret
        refine ⟨ret_bool ?_, hb⟩
        rw [HR.out, all_no _ _ n hlt (by rw [HC.out]; simp [inB]; intro h; omega)]; simp
      have hhi' : decide (getI ⟨op, d, s, t, u, a, k, pl⟩ c ≥ endI op c p) = false := by simpa using hhi
      generalize hZZ : clr ⟨op, d, s, t, u, a, k, pl⟩ (hs.take n) = z at hZ
      have HZ := Lib.hid hZZ
      clear hZZ
      obtain ⟨zop, zd, zs, zt, zu, za, zk, zpl⟩ := z
      obtain ⟨c0, c1, c2, c3, c4, c5, c6, c7⟩ := hZ.cells
      simp only at c0 c1 c2 c3 c4 c5 c6 c7
      go_wp2_with fail
      go_region_law (first | (go_simp; go_at_call 50; refine (cSet ⟨zop, zd, zs, zt, zu, za, zk, zpl⟩ _ 0 hc _).mono ?_; rintro e y ⟨rfl, hy⟩; replace hy := below_of_drew hy; obtain ⟨d0, d1, d2, d3, d4, d5, d6, d7⟩ := (hZ.below hy).cells; have hf := Bk.free (hZ.below hy); generalize hz2 : setI ⟨zop, zd, zs, zt, zu, za, zk, zpl⟩ c 0 = z2; have HZ2 := Lib.hid hz2; clear hz2; obtain ⟨yop, yd, ys, yt, yu, ya, yk, ypl⟩ := z2; unfold iv))
      all_goals
        generalize hv : ((((((((y.setCell ⟨w.heap.size + 1, 0, none⟩ (.int .i64 yop)).setCell ⟨w.heap.size + 1, 1, none⟩ (.int .i64 yd)).setCell ⟨w.heap.size + 1, 2, none⟩ (.int .i64 ys)).setCell ⟨w.heap.size + 1, 3, none⟩ (.int .i64 yt)).setCell ⟨w.heap.size + 1, 4, none⟩ (.int .i64 yu)).setCell ⟨w.heap.size + 1, 5, none⟩ (.int .i64 ya)).setCell ⟨w.heap.size + 1, 6, none⟩ (.int .u32 yk)).setCell ⟨w.heap.size + 1, 7, none⟩ (.int .i64 ypl)) = v
        have hv2 : put8 y (w.heap.size + 1) ⟨yop, yd, ys, yt, yu, ya, yk, ypl⟩ = v := hv
        clear hv
        have hA := put8_ib (i := ⟨yop, yd, ys, yt, yu, ya, yk, ypl⟩) (hZ.below hy)
        have hB := put8_off (i := ⟨yop, yd, ys, yt, yu, ya, yk, ypl⟩) (hI.below hy) (show w.heap.size ≠ w.heap.size + 1 by omega)
        have hC := put8_below (i := ⟨yop, yd, ys, yt, yu, ya, yk, ypl⟩) (hb.trans (hy.mono (Nat.le_of_lt hlt1))) (show w.heap.size ≤ w.heap.size + 1 by omega)
        rw [hv2] at hA hB hC
        clear hv2 d0 d1 d2 d3 d4 d5 d6 d7 hf c0 c1 c2 c3 c4 c5 c6 c7 hidx
        have hn1 : (n : Int) + 1 ≤ 6 := by omega
        go_wp2
        go_roundw
        case rel =>
          refine ⟨n + 1, by omega, by go_num, hC, hB, ?_, ?_⟩
          · rw [clr_snoc _ _ _ hlt, HZ.out, HC.out, HZ2.out]; exact hA
          · rw [all_snoc _ _ _ hlt, HC.out, hok]; simp [inB]; omega
        case measure => simp [intOf]; omega
    · obtain rfl : n = hs.length := by omega
      generalize hZZ : clr ⟨op, d, s, t, u, a, k, pl⟩ (hs.take hs.length) = z at hZ
      obtain ⟨zop, zd, zs, zt, zu, za, zk, zpl⟩ := z
      obtain ⟨c0, c1, c2, c3, c4, c5, c6, c7⟩ := hZ.cells
      simp only at c0 c1 c2 c3 c4 c5 c6 c7
      rw [List.take_length] at hZZ hok
      have HZ := Lib.hid hZZ
      have HO := Lib.hid hok
      clear hZZ hok
      have hq := run_eqI ⟨zop, zd, zs, zt, zu, za, zk, zpl⟩ Ins.zero
      generalize hB : eqI ⟨zop, zd, zs, zt, zu, za, zk, zpl⟩ Ins.zero = B at hq
      have HB := Lib.hid hB
      clear hB
      unfold iv Ins.zero at hq
      simp only at hq
      go_wp2
      go_ret
      refine ⟨ret_bool ?_, hb⟩
      rw [HR.out, HO.out, HZ.out, isZ_eq, HB.out, hne]; rfl
end Go.Proofs.Ytpinpipjlongaaa
