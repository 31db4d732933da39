/- Put and Take of layer 3 (ring) at pairs of ints, whatever the ring holds. -/
import Derived.Test.YthclahiljfamoaaRingPair
namespace Go.Proofs.Ythclahiljfamoaa.RPair
open Go.ChangeShapes Go.WideShapes Go.ChangeAt Go.RowKit
section
variable {w : World} {p : Nat} {a : Option Addr} {n f r : Nat}

/-- Behind a Put: one more, last. -/
def PutPost (w : World) (p : Nat) (og : Option Nat) (r : Nat) (vs : List (Int × Int)) (v : Int × Int) (e : Ending) (w' : World) : Prop :=
  ∃ og', e = .returned (.bool true) ∧ Rg w' p og' r (vs ++ [v]) ∧ Moved w p og w' og'

theorem put_free {g : Nat} {cs vs : List (Int × Int)} (h : In w p (some g) n f r cs vs) (hv : vs.length < n) (v : Int × Int) :
    Calls Try.prog 17 #[.pointer (some ⟨p, 0, none⟩), C v] w (PutPost w p (some g) r vs v) := by
  have hB := Bk.made w 43 #[.int .i64 v.1, .int .i64 v.2]
  have hA := grown_made w (.cells #[.int .i64 v.1, .int .i64 v.2] 43) none
  have hWA : Within w (w.alloc (.cells #[.int .i64 v.1, .int .i64 v.2] 43)) (fun _ => False) := .of_grown hA (by simp)
  have hq := h.kept hWA (by simp) (by simp)
  have hpB : p ≠ w.heap.size := by have := Bk.lt h.hd; omega
  have hgB : g ≠ w.heap.size := by have := h.lt rfl; omega
  go_enter Try.func17, Try.ntmps17
  go_wp2_with fail
  generalize w.alloc (.cells #[.int .i64 v.1, .int .i64 v.2] 43) = w1 at hB hA hWA hq ⊢
  generalize w.heap.size = B at hB hpB hgB ⊢
  have c0 := hq.hd.c0
  have c2 := hq.hd.c2
  have c3 := hq.hd.c3
  simp only [Option.map_some] at c0
  have hf := h.few
  have hm := h.most
  have hfn := h.some_ g rfl
  have hM := hq.more hv v
  generalize hc : vs.length = c at hv c2 hM
  have HC := Lib.hid hc
  clear hc
  have hne := h.ne rfl
  have t1 : decide ((r : Int) ≤ (c : Int)) = false := by simp; omega
  have t2 : ((c : Int) == (n : Int)) = false := by simp; omega
  have hpl : plc f c n < n := plc_lt (by omega)
  have b3 : (plc f c n : Int) < n := by omega
  have hl := hq.len
  have e1 : w1.cell? ⟨g, plc f c n * 2, none⟩ = some (.int .i64 (nthO (0, 0) cs (plc f c n)).1) := by rw [(hq.row g rfl).cell, row2_0 (by rw [hl]; exact hpl)]
  have e1' : w1.cell? ⟨g, plc f c n * 2 + 1, none⟩ = some (.int .i64 (nthO (0, 0) cs (plc f c n)).2) := by rw [(hq.row g rfl).cell, row2_1 (by rw [hl]; exact hpl)]
  have z1 := (hq.row g rfl).free (plc f c n * 2)
  have z1' := (hq.row g rfl).free (plc f c n * 2 + 1)
  have z2 := Bk.free hq.hd 2
  have o0 : w1.cell? ⟨B, 0, none⟩ = some (.int .i64 v.1) := by rw [hB.cell]; rfl
  have o1 : w1.cell? ⟨B, 1, none⟩ = some (.int .i64 v.2) := by rw [hB.cell]; rfl
  clear hl
  have k1 : ∀ (W : World) (u : Value) (i j : Nat), (W.setCell ⟨g, i, none⟩ u).cell? ⟨p, j, none⟩ = W.cell? ⟨p, j, none⟩ := fun W u i j => cell_off hne
  have k2 : ∀ (W : World) (u : Value) (i j : Nat), (W.setCell ⟨g, i, none⟩ u).cell? ⟨B, j, none⟩ = W.cell? ⟨B, j, none⟩ := fun W u i j => cell_off hgB.symm
  go_quiet (fail)
  go_wp2
  go_quiet (fail)
  go_wp2
  go_region_held3 (fun w' => w'.cell? ⟨p, 0, none⟩ = some (Value.slice (some ⟨g, 0, none⟩) n n) ∧ w'.cell? ⟨p, 2, none⟩ = some (Value.int .i64 c) ∧ w'.cell? ⟨B, 0, none⟩ = some (.int .i64 v.1) ∧ w'.cell? ⟨B, 1, none⟩ = some (.int .i64 v.2)) (go_keep)
    (first | (go_at_call 30; refine (place_any (hq.draws _).hd (by omega) (by omega) (by omega) c (by omega)).mono ?_; rintro e w' ⟨rfl, m, rfl⟩))
  go_wp2
  go_ret
  refine ⟨some g, rfl, ⟨n, f, _, hM.same rfl⟩, .inl rfl, ?_⟩
  have hw1 : Within w w1 (fun b => b = p ∨ some b = some g) := hWA.wide (by simp)
  exact (((hw1.draws _).put g _ _ (.inl (.inr rfl))).put g _ _ (.inl (.inr rfl))).put p _ _ (.inl (.inl rfl))

theorem put_grow {og : Option Nat} {cs vs : List (Int × Int)} (h : In w p og n f r cs vs) (hv : vs.length = n) (hr : n < r) (v : Int × Int) :
    Calls Try.prog 17 #[.pointer (some ⟨p, 0, none⟩), C v] w (PutPost w p og r vs v) := by
  have hB := Bk.made w 43 #[.int .i64 v.1, .int .i64 v.2]
  have hA := grown_made w (.cells #[.int .i64 v.1, .int .i64 v.2] 43) none
  have hWA : Within w (w.alloc (.cells #[.int .i64 v.1, .int .i64 v.2] 43)) (fun _ => False) := .of_grown hA (by simp)
  have hq := h.kept hWA (by simp) (by simp)
  have hpB : p < w.heap.size := Bk.lt h.hd
  have hf := h.few
  have t1 : decide ((r : Int) ≤ (n : Int)) = false := by simp; omega
  have HV := Lib.hid hv
  clear hv
  have hH : w.heap.size ≤ w.heap.size := Nat.le_refl _
  go_enter Try.func17, Try.ntmps17
  go_wp2_with fail
  generalize w.alloc (.cells #[.int .i64 v.1, .int .i64 v.2] 43) = w1 at hB hA hWA hq ⊢
  have hBl := hB.lt
  generalize hBe : w.heap.size = B at hB hpB hBl ⊢
  have HBE := Lib.hid hBe
  clear hBe
  have c0 := hq.hd.c0
  have c2 := hq.hd.c2
  have c3 := hq.hd.c3
  rw [HV.out] at c2
  generalize og.map (fun g => (⟨g, 0, none⟩ : Addr)) = a at c0
  go_quiet (fail)
  go_wp2
  go_quiet (fail)
  go_wp2_with fail
  refine (grow_any (hq.draws _) HV.out hr).mono ?_
  rintro e w2 ⟨q, N, cs1, rfl, h1, hN, hq1, hw1⟩
  have hq' : w1.heap.size ≤ q := hq1
  have hw1' : Within w1 w2 (fun b => b = p) := Within.then_ ((Within.refl w1 _).draws _) hw1 (fun i e => .inl e)
  have hB2 := hB.within hw1' (by omega)
  clear c0 c2 c3 hw1 hq1 t1
  have c0 := h1.hd.c0
  have c2 := h1.hd.c2
  simp only [Option.map_some] at c0
  rw [HV.out] at c2
  have hm := h1.most
  have hM := h1.more (by rw [HV.out]; exact hN) v
  rw [HV.out] at hM
  have hne := h1.ne rfl
  have hqB : B ≠ q := by omega
  have hpl : plc 0 n N < N := plc_lt (by omega)
  have b3 : (plc 0 n N : Int) < N := by omega
  have hl := h1.len
  have e1 : w2.cell? ⟨q, plc 0 n N * 2, none⟩ = some (.int .i64 (nthO (0, 0) cs1 (plc 0 n N)).1) := by rw [(h1.row q rfl).cell, row2_0 (by rw [hl]; exact hpl)]
  have e1' : w2.cell? ⟨q, plc 0 n N * 2 + 1, none⟩ = some (.int .i64 (nthO (0, 0) cs1 (plc 0 n N)).2) := by rw [(h1.row q rfl).cell, row2_1 (by rw [hl]; exact hpl)]
  have z1 := (h1.row q rfl).free (plc 0 n N * 2)
  have z1' := (h1.row q rfl).free (plc 0 n N * 2 + 1)
  have z2 := Bk.free h1.hd 2
  have o0 : w2.cell? ⟨B, 0, none⟩ = some (.int .i64 v.1) := by rw [hB2.cell]; rfl
  have o1 : w2.cell? ⟨B, 1, none⟩ = some (.int .i64 v.2) := by rw [hB2.cell]; rfl
  clear hl
  have k1 : ∀ (W : World) (u : Value) (i j : Nat), (W.setCell ⟨q, i, none⟩ u).cell? ⟨p, j, none⟩ = W.cell? ⟨p, j, none⟩ := fun W u i j => cell_off hne
  have k2 : ∀ (W : World) (u : Value) (i j : Nat), (W.setCell ⟨q, i, none⟩ u).cell? ⟨B, j, none⟩ = W.cell? ⟨B, j, none⟩ := fun W u i j => cell_off hqB
  go_wp2
  go_region_held3 (fun w' => w'.cell? ⟨p, 0, none⟩ = some (Value.slice (some ⟨q, 0, none⟩) N N) ∧ w'.cell? ⟨p, 2, none⟩ = some (Value.int .i64 n) ∧ w'.cell? ⟨B, 0, none⟩ = some (.int .i64 v.1) ∧ w'.cell? ⟨B, 1, none⟩ = some (.int .i64 v.2)) (go_keep)
    (first | (go_at_call 30; refine (place_any (w := w2.drew) h1.hd (by omega) (by omega) (by omega) n (by omega)).mono ?_; rintro e w' ⟨rfl, m, rfl⟩))
  go_wp2
  go_ret
  have hs1 := hA.size
  have hq2 : w.heap.size ≤ q := by omega
  refine ⟨some q, rfl, ⟨N, 0, _, hM.same rfl⟩, .inr ⟨q, rfl, hq2⟩, ?_⟩
  have hw2 : Within w w2 (fun b => b = p ∨ some b = og) := (hWA.wide (by simp)).then_ hw1' (fun i e => .inl (.inl e))
  exact (((hw2.draws _).put q _ _ (.inr hq2)).put q _ _ (.inr hq2)).put p _ _ (.inl (.inl rfl))

theorem put_ok {og : Option Nat} {vs : List (Int × Int)} (h : Rg w p og r vs) (hv : vs.length < r) (v : Int × Int) :
    Calls Try.prog 17 #[.pointer (some ⟨p, 0, none⟩), C v] w (PutPost w p og r vs v) := by
  obtain ⟨n, f, cs, h⟩ := h
  by_cases e : vs.length = n
  · exact put_grow h e (by omega) v
  · have hfit := h.fits
    cases og with
    | none => obtain ⟨rfl, rfl⟩ := h.none_ rfl; omega
    | some g => exact put_free h (by omega) v
theorem len_rg {og : Option Nat} {vs : List (Int × Int)} (h : Rg w p og r vs) :
    Calls Try.prog 20 #[.pointer (some ⟨p, 0, none⟩)] w fun e w' => e = .returned (.int .i64 vs.length) ∧ w = w' := by
  obtain ⟨n, f, cs, h⟩ := h; exact len_any h.hd
theorem room_rg {og : Option Nat} {vs : List (Int × Int)} (h : Rg w p og r vs) :
    Calls Try.prog 18 #[.pointer (some ⟨p, 0, none⟩)] w fun e w' => e = .returned (.int .i64 ((r - vs.length : Nat) : Int)) ∧ ∃ m, w' = w.drewN m := by
  have hl := h.len_le
  obtain ⟨n, f, cs, h⟩ := h; exact room_any h.hd hl.1 hl.2

/-- Behind a Take: the first one out. -/
def TakePost (w : World) (p : Nat) (og : Option Nat) (r : Nat) (v : Int × Int) (vs : List (Int × Int)) (e : Ending) (w' : World) : Prop :=
  e = .returned (.tuple #[C v, .bool true]) ∧ Rg w' p og r vs ∧ Within w w' (fun b => b = p ∨ some b = og)

set_option maxHeartbeats 1600000 in
theorem take_ok {og : Option Nat} {v : Int × Int} {vs : List (Int × Int)} (h : Rg w p og r (v :: vs)) :
    Calls Try.prog 19 #[.pointer (some ⟨p, 0, none⟩)] w (TakePost w p og r v vs) := by
  obtain ⟨n, f, cs, h⟩ := h
  have hfit := h.fits
  simp only [List.length_cons] at hfit
  cases og with
  | none => obtain ⟨rfl, rfl⟩ := h.none_ rfl; omega
  | some g =>
    have hfn := h.some_ g rfl
    have hm := h.most
    have hf := h.few
    have hR := (Bk.made w 43 #[.int .i64 0, .int .i64 0]).alloc (.cells #[.int .i64 0, .int .i64 0] 43)
    have hO := Bk.made (w.alloc (.cells #[.int .i64 0, .int .i64 0] 43)) 43 #[.int .i64 0, .int .i64 0]
    have hA := grown_then (grown_made w (.cells #[.int .i64 0, .int .i64 0] 43) none) (grown_made _ (.cells #[.int .i64 0, .int .i64 0] 43) none) (.inl rfl)
    have hs2 : ((w.alloc (.cells #[.int .i64 0, .int .i64 0] 43)).alloc (.cells #[.int .i64 0, .int .i64 0] 43)).heap.size = w.heap.size + 2 := by simp
    rw [show (w.alloc (.cells #[.int .i64 0, .int .i64 0] 43)).heap.size = w.heap.size + 1 by simp] at hO
    have c2 := h.hd.c2
    simp only [List.length_cons] at c2
    have t3 : ((vs.length : Int) + 1 == 0) = false := by simp; omega
    have hpl := Bk.lt h.hd
    have hgl := h.lt rfl
    have HS2 := Lib.hid hs2
    clear hs2
    go_enter Try.func19, Try.ntmps19
    go_wp2_with fail
    generalize (w.alloc (.cells #[.int .i64 0, .int .i64 0] 43)).alloc (.cells #[.int .i64 0, .int .i64 0] 43) = w2 at hR hO hA HS2 ⊢
    have hWA : Within w w2 (fun _ => False) := .of_grown hA (by simp)
    have h2 := h.kept hWA (by simp) (by simp)
    have c0 := h2.hd.c0
    have c1 := h2.hd.c1
    simp only [Option.map_some] at c0
    have hl := h2.len
    have hat := h2.at_ 0 (by simp)
    rw [plc_first hfn] at hat
    have hat' : nthO (0, 0) cs f = v := by rw [← hat]; rfl
    have e1 : w2.cell? ⟨g, f * 2, none⟩ = some (.int .i64 v.1) := by rw [(h2.row g rfl).cell, row2_0 (by rw [hl]; exact hfn), hat']
    have e1' : w2.cell? ⟨g, f * 2 + 1, none⟩ = some (.int .i64 v.2) := by rw [(h2.row g rfl).cell, row2_1 (by rw [hl]; exact hfn), hat']
    have b1 : (f : Int) < n := by omega
    have n0 := World.new_ne w2 _ c0
    have n1 := World.new_ne w2 _ c1
    have n2 := World.new_ne w2 _ e1
    have n3 := World.new_ne w2 _ e1'
    clear hat hat' hl c2 t3
    go_region_held3 (fun w' => w'.cell? ⟨p, 0, none⟩ = some (Value.slice (some ⟨g, 0, none⟩) n n) ∧ w'.cell? ⟨p, 1, none⟩ = some (Value.int .i64 f) ∧ w'.cell? ⟨g, f * 2, none⟩ = some (.int .i64 v.1) ∧ w'.cell? ⟨g, f * 2 + 1, none⟩ = some (.int .i64 v.2)) (go_keep) ((fail))
    have hV := Bk.made w2 43 #[.int .i64 v.1, .int .i64 v.2]
    have hA3 := grown_made w2 (.cells #[.int .i64 v.1, .int .i64 v.2] 43) none
    rw [HS2.out] at hV
    clear n0 n1 n2 n3 c0 c1 e1 e1'
    rw [HS2.out]
    have hV3 := hV.drewN 1
    have hR3 := (hR.grown hA3 (by simp)).drewN 1
    have hO3 := (hO.grown hA3 (by simp)).drewN 1
    have h3 := (h2.kept (.of_grown (S := fun _ => False) hA3 (by simp)) (by simp) (by simp)).draws 1
    have hW3 : Within w ((w2.alloc (.cells #[.int .i64 v.1, .int .i64 v.2] 43)).drewN 1) (fun _ => False) := (hWA.alloc _).draws 1
    change Exit.then _ _ _ _ ((w2.alloc (.cells #[.int .i64 v.1, .int .i64 v.2] 43)).drewN 1)
    generalize (w2.alloc (.cells #[.int .i64 v.1, .int .i64 v.2] 43)).drewN 1 = w3 at *
    clear hV hR hO hA HS2 hWA h2 hA3 h
    have hRl : w.heap.size ≤ w.heap.size := Nat.le_refl _
    generalize hRe : w.heap.size = R at hV3 hR3 hO3 hpl hgl hRl ⊢
    have HRE := Lib.hid hRe
    clear hRe
    have c0 := h3.hd.c0
    have c1 := h3.hd.c1
    have c2 := h3.hd.c2
    simp only [Option.map_some] at c0
    simp only [List.length_cons] at c2
    have hl := h3.len
    have e1 : w3.cell? ⟨g, f * 2, none⟩ = some (.int .i64 (nthO (0, 0) cs f).1) := by rw [(h3.row g rfl).cell, row2_0 (by rw [hl]; exact hfn)]
    have e1' : w3.cell? ⟨g, f * 2 + 1, none⟩ = some (.int .i64 (nthO (0, 0) cs f).2) := by rw [(h3.row g rfl).cell, row2_1 (by rw [hl]; exact hfn)]
    have o0 : w3.cell? ⟨R + 1, 0, none⟩ = some (.int .i64 0) := by rw [hO3.cell]; rfl
    have o1 : w3.cell? ⟨R + 1, 1, none⟩ = some (.int .i64 0) := by rw [hO3.cell]; rfl
    have v0 : w3.cell? ⟨R + 2, 0, none⟩ = some (.int .i64 v.1) := by rw [hV3.cell]; rfl
    have v1 : w3.cell? ⟨R + 2, 1, none⟩ = some (.int .i64 v.2) := by rw [hV3.cell]; rfl
    have r0 : w3.cell? ⟨R, 0, none⟩ = some (.int .i64 0) := by rw [hR3.cell]; rfl
    have r1 : w3.cell? ⟨R, 1, none⟩ = some (.int .i64 0) := by rw [hR3.cell]; rfl
    have y0 := hR3.free 0
    have y1 := hR3.free 1
    have hne := h3.ne rfl
    have z0 := (h3.row g rfl).free (f * 2)
    have z0' := (h3.row g rfl).free (f * 2 + 1)
    have z1 := Bk.free h3.hd 1
    have z2 := Bk.free h3.hd 2
    have h1 : Hd ((w3.setCell ⟨g, f * 2, none⟩ (.int .i64 0)).setCell ⟨g, f * 2 + 1, none⟩ (.int .i64 0)) p (some ⟨g, 0, none⟩) n f (vs.length + 1) r :=
      Bk.off (Bk.off h3.hd (p := ⟨g, f * 2, none⟩) hne (.int .i64 0)) (p := ⟨g, f * 2 + 1, none⟩) hne (.int .i64 0)
    have hL := h3.less
    clear hl
    generalize hvl : vs.length = c at c2 hL h1 hfit
    have HVL := Lib.hid hvl
    clear hvl
    have t2 : ((c + 1 : Nat) : Int) = (c : Int) + 1 := by omega
    rw [t2] at c2
    clear t2
    have hgO : R + 1 ≠ g := by omega
    have hgV : R + 2 ≠ g := by omega
    have hgR : R ≠ g := by omega
    have hpV : R + 2 ≠ p := by omega
    have hpR : R ≠ p := by omega
    have k1 : ∀ (W : World) (u : Value) (i j : Nat), (W.setCell ⟨g, i, none⟩ u).cell? ⟨p, j, none⟩ = W.cell? ⟨p, j, none⟩ := fun W u i j => cell_off hne
    have k2 : ∀ (W : World) (u : Value) (i j : Nat), (W.setCell ⟨g, i, none⟩ u).cell? ⟨R + 1, j, none⟩ = W.cell? ⟨R + 1, j, none⟩ := fun W u i j => cell_off hgO
    have k3 : ∀ (W : World) (u : Value) (i j : Nat), (W.setCell ⟨g, i, none⟩ u).cell? ⟨R + 2, j, none⟩ = W.cell? ⟨R + 2, j, none⟩ := fun W u i j => cell_off hgV
    have k4 : ∀ (W : World) (u : Value) (i j : Nat), (W.setCell ⟨g, i, none⟩ u).cell? ⟨R, j, none⟩ = W.cell? ⟨R, j, none⟩ := fun W u i j => cell_off hgR
    have k5 : ∀ (W : World) (u : Value) (i j : Nat), (W.setCell ⟨p, i, none⟩ u).cell? ⟨R + 2, j, none⟩ = W.cell? ⟨R + 2, j, none⟩ := fun W u i j => cell_off hpV
    have k6 : ∀ (W : World) (u : Value) (i j : Nat), (W.setCell ⟨p, i, none⟩ u).cell? ⟨R, j, none⟩ = W.cell? ⟨R, j, none⟩ := fun W u i j => cell_off hpR
    go_wp2
    go_region_held3 (fun w' => w'.cell? ⟨p, 0, none⟩ = some (Value.slice (some ⟨g, 0, none⟩) n n) ∧ w'.cell? ⟨p, 1, none⟩ = some (Value.int .i64 f) ∧ w'.cell? ⟨R + 1, 0, none⟩ = some (.int .i64 0) ∧ w'.cell? ⟨R + 1, 1, none⟩ = some (.int .i64 0)) (go_keep) ((fail))
    go_wp2_with fail
    have h5 : Hd ((w3.setCell ⟨g, f * 2, none⟩ (.int .i64 0)).setCell ⟨g, f * 2 + 1, none⟩ (.int .i64 0)).drew p (some ⟨g, 0, none⟩) n f (c + 1) r := h1
    have hP := place_any h5 (by omega) (by omega) (by omega) 1 (by omega)
    refine hP.mono ?_
    clear hP
    rintro e w' ⟨rfl, m, rfl⟩
    go_wp2
    have hY : In (((((w3.setCell ⟨g, f * 2, none⟩ (.int .i64 0)).setCell ⟨g, f * 2 + 1, none⟩ (.int .i64 0)).drewN (1 + m)).setCell ⟨p, 1, none⟩ (.int .i64 (plc f 1 n))).setCell ⟨p, 2, none⟩ (.int .i64 c)) p (some g) n (plc f 1 n) r (cs.set f (0, 0)) vs := hL.same rfl
    have hYR : Bk (((((w3.setCell ⟨g, f * 2, none⟩ (.int .i64 0)).setCell ⟨g, f * 2 + 1, none⟩ (.int .i64 0)).drewN (1 + m)).setCell ⟨p, 1, none⟩ (.int .i64 (plc f 1 n))).setCell ⟨p, 2, none⟩ (.int .i64 c)) R 43 #[.int .i64 0, .int .i64 0] :=
      (((hR3.off (p := ⟨g, f * 2, none⟩) hgR _).off (p := ⟨g, f * 2 + 1, none⟩) hgR _).drewN (1 + m) |>.off (p := ⟨p, 1, none⟩) hpR _).off (p := ⟨p, 2, none⟩) hpR _
    have hYW : Within w (((((w3.setCell ⟨g, f * 2, none⟩ (.int .i64 0)).setCell ⟨g, f * 2 + 1, none⟩ (.int .i64 0)).drewN (1 + m)).setCell ⟨p, 1, none⟩ (.int .i64 (plc f 1 n))).setCell ⟨p, 2, none⟩ (.int .i64 c)) (fun b => b = p ∨ some b = some g) :=
      ((((((hW3.wide (by simp)).put g _ _ (.inl (.inr rfl))).put g _ _ (.inl (.inr rfl))).draws (1 + m)).put p _ _ (.inl (.inl rfl))).put p _ _ (.inl (.inl rfl)))
    generalize ((((w3.setCell ⟨g, f * 2, none⟩ (.int .i64 0)).setCell ⟨g, f * 2 + 1, none⟩ (.int .i64 0)).drewN (1 + m)).setCell ⟨p, 1, none⟩ (.int .i64 (plc f 1 n))).setCell ⟨p, 2, none⟩ (.int .i64 c) = w8 at hY hYR hYW ⊢
    have hZR := (hYR.put 0 (.int .i64 v.1)).put 1 (.int .i64 v.2)
    have hRw : w.heap.size ≤ R := by rw [HRE.out]; exact Nat.le_refl _
    have hZW := (hYW.put R 0 (.int .i64 v.1) (.inr hRw)).put R 1 (.int .i64 v.2) (.inr hRw)
    have hZ : In ((w8.setCell ⟨R, 0, none⟩ (.int .i64 v.1)).setCell ⟨R, 1, none⟩ (.int .i64 v.2)) p (some g) n (plc f 1 n) r (cs.set f (0, 0)) vs :=
      hY.kept (((Within.refl w8 (fun b => b = R)).put R 0 _ (.inl rfl)).put R 1 _ (.inl rfl)) (fun e => hpR e.symm) (fun g' e e' => by injection e with e; omega)
    generalize (w8.setCell ⟨R, 0, none⟩ (.int .i64 v.1)).setCell ⟨R, 1, none⟩ (.int .i64 v.2) = w9 at hZR hZW hZ ⊢
    have q0 : w9.cell? ⟨R, 0, none⟩ = some (.int .i64 v.1) := by rw [hZR.cell]; rfl
    have q1 : w9.cell? ⟨R, 1, none⟩ = some (.int .i64 v.2) := by rw [hZR.cell]; rfl
    clear k1 k2 k3 k4 k5 k6 c0 c1 c2 e1 e1' o0 o1 v0 v1 r0 r1 y0 y1 z0 z0' z1 z2
    exact bodyPost_ret (v := .tuple #[.agg #[.int .i64 v.1, .int .i64 v.2], .bool true]) (by simp [results, Try.results19, go_sem, q0, q1]) rfl ⟨rfl, ⟨n, _, _, hZ⟩, hZW⟩
end
end Go.Proofs.Ythclahiljfamoaa.RPair
