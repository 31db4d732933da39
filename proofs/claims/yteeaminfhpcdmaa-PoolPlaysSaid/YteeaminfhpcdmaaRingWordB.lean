/- Put, Take and All of layer 3 (ring) at values of one cell (here: uint32), whatever the ring holds. -/
import Derived.Test.YteeaminfhpcdmaaRingWord
namespace Go.Proofs.Yteeaminfhpcdmaa.RWord
open Go.ChangeShapes Go.WideShapes Go.ChangeAt Go.RowKit
section
variable {w : World} {p : Nat} {a : Option Addr} {n f r : Nat}

theorem put_grow {og : Option Nat} {cs vs : List Int} (h : In w p og n f r cs vs) (hv : vs.length = n) (hr : n < r) (v : Int) :
    Calls Try.prog 24 #[.pointer (some ⟨p, 0, none⟩), C v] w (PutPost w p og r vs v) := by
  have c0 := h.hd.c0
  have c2 := h.hd.c2
  have c3 := h.hd.c3
  rw [hv] at c2
  have hf := h.few
  have HV := Lib.hid hv
  clear hv
  have t1 : decide ((r : Int) ≤ (n : Int)) = false := by simp; omega
  generalize og.map (fun g => (⟨g, 0, none⟩ : Addr)) = a at c0
  go_enter Try.func24, Try.ntmps24
  go_wp2
  go_quiet (fail)
  go_wp2
  go_quiet (fail)
  go_wp2_with fail
  refine (grow_any (h.draws _) HV.out hr).mono ?_
  rintro e w1 ⟨q, N, cs1, rfl, h1, hN, hq, hw1⟩
  have hq' : w.heap.size ≤ q := hq
  have hw1' : Within w w1 (fun b => b = p) := Within.then_ ((Within.refl w _).draws _) hw1 (fun i e => .inl e)
  clear c0 c2 c3 hw1 hq t1
  have c0 := h1.hd.c0
  have c2 := h1.hd.c2
  simp only [Option.map_some] at c0
  rw [HV.out] at c2
  have hm := h1.most
  have hM := h1.more (by rw [HV.out]; exact hN) v
  rw [HV.out] at hM
  have hne := h1.ne rfl
  have hpl : plc 0 n N < N := plc_lt (by omega)
  have b3 : (plc 0 n N : Int) < N := by omega
  have hl := h1.len
  have e1 : w1.cell? ⟨q, plc 0 n N, none⟩ = some (C (nthO 0 cs1 (plc 0 n N))) := by rw [(h1.row q rfl).cell, rowOf_at (z := 0) C (by rw [hl]; exact hpl)]
  have z1 := (h1.row q rfl).free (plc 0 n N)
  have z2 := Bk.free h1.hd 2
  clear hl
  have k1 : ∀ (W : World) (u : Value) (i j : Nat), (W.setCell ⟨q, i, none⟩ u).cell? ⟨p, j, none⟩ = W.cell? ⟨p, j, none⟩ := fun W u i j => cell_off hne
  go_wp2
  go_region_held3 (fun w' => w'.cell? ⟨p, 0, none⟩ = some (Value.slice (some ⟨q, 0, none⟩) N N) ∧ w'.cell? ⟨p, 2, none⟩ = some (Value.int .i64 n)) (go_keep)
    (first | (go_at_call 35; refine (place_any (w := w1.drew) h1.hd (by omega) (by omega) (by omega) n (by omega)).mono ?_; rintro e w' ⟨rfl, m, rfl⟩))
  go_wp2
  go_ret
  refine ⟨some q, rfl, ⟨N, 0, _, hM.draws _⟩, .inr ⟨q, rfl, hq'⟩, ?_⟩
  have hw2 : Within w w1 (fun b => b = p ∨ some b = og) := hw1'.wide (fun i e _ => .inl e)
  exact ((hw2.draws _).put q _ _ (.inr hq')).put p _ _ (.inl (.inl rfl))

theorem put_ok {og : Option Nat} {vs : List Int} (h : Rg w p og r vs) (hv : vs.length < r) (v : Int) :
    Calls Try.prog 24 #[.pointer (some ⟨p, 0, none⟩), C v] w (PutPost w p og r vs v) := by
  obtain ⟨n, f, cs, h⟩ := h
  by_cases e : vs.length = n
  · exact put_grow h e (by omega) v
  · have hfit := h.fits
    cases og with
    | none => obtain ⟨rfl, rfl⟩ := h.none_ rfl; omega
    | some g => exact put_free h (by omega) v
theorem put_no {og : Option Nat} {vs : List Int} (h : Rg w p og r vs) (hv : vs.length = r) (v : Int) :
    Calls Try.prog 24 #[.pointer (some ⟨p, 0, none⟩), C v] w fun e w' => e = .returned (.bool false) ∧ ∃ m, w' = w.drewN m := by
  obtain ⟨n, f, cs, h⟩ := h; exact put_full h hv v
theorem room_rg {og : Option Nat} {vs : List Int} (h : Rg w p og r vs) :
    Calls Try.prog 30 #[.pointer (some ⟨p, 0, none⟩)] w fun e w' => e = .returned (.int .i64 ((r - vs.length : Nat) : Int)) ∧ ∃ m, w' = w.drewN m := by
  have hl := h.len_le
  obtain ⟨n, f, cs, h⟩ := h; exact room_any h.hd hl.1 hl.2

theorem take_no {og : Option Nat} (h : Rg w p og r []) :
    Calls Try.prog 28 #[.pointer (some ⟨p, 0, none⟩)] w fun e w' => e = .returned (.tuple #[C 0, .bool false]) ∧ w = w' := by
  obtain ⟨n, f, cs, h⟩ := h
  have c2 := h.hd.c2
  simp only [List.length_nil] at c2
  go_enter Try.func28, Try.ntmps28
  go_wp2
  go_ret2
  exact ⟨rfl, rfl⟩

/-- Behind a Take: the first one out. -/
def TakePost (w : World) (p : Nat) (og : Option Nat) (r : Nat) (v : Int) (vs : List Int) (e : Ending) (w' : World) : Prop :=
  e = .returned (.tuple #[C v, .bool true]) ∧ Rg w' p og r vs ∧ Within w w' (fun b => b = p ∨ some b = og)

theorem take_ok {og : Option Nat} {v : Int} {vs : List Int} (h : Rg w p og r (v :: vs)) :
    Calls Try.prog 28 #[.pointer (some ⟨p, 0, none⟩)] w (TakePost w p og r v vs) := by
  obtain ⟨n, f, cs, h⟩ := h
  have hfit := h.fits
  simp only [List.length_cons] at hfit
  cases og with
  | none => obtain ⟨rfl, rfl⟩ := h.none_ rfl; omega
  | some g =>
    have hfn := h.some_ g rfl
    have hm := h.most
    have hf := h.few
    have c0 := h.hd.c0
    have c1 := h.hd.c1
    have c2 := h.hd.c2
    simp only [Option.map_some] at c0
    simp only [List.length_cons] at c2
    have hL := h.less
    have hl := h.len
    have hat := h.at_ 0 (by simp)
    rw [plc_first hfn] at hat
    have hat' : nthO 0 cs f = v := by rw [← hat]; rfl
    have e1 : w.cell? ⟨g, f, none⟩ = some (C v) := by rw [(h.row g rfl).cell, rowOf_at (z := 0) C (by rw [hl]; exact hfn), hat']
    have b1 : (f : Int) < n := by omega
    have hne := h.ne rfl
    have z0 := (h.row g rfl).free f
    have z1 := Bk.free h.hd 1
    have z2 := Bk.free h.hd 2
    have h1 : Hd (w.setCell ⟨g, f, none⟩ (C 0)) p (some ⟨g, 0, none⟩) n f (vs.length + 1) r := Bk.off h.hd (p := ⟨g, f, none⟩) hne (C 0)
    clear hat hat' hl
    generalize vs.length = c at c2 hL h1 hfit
    have t2 : ((c + 1 : Nat) : Int) = (c : Int) + 1 := by omega
    rw [t2] at c2
    clear t2
    have k1 : ∀ (W : World) (u : Value) (i j : Nat), (W.setCell ⟨g, i, none⟩ u).cell? ⟨p, j, none⟩ = W.cell? ⟨p, j, none⟩ := fun W u i j => cell_off hne
    have t3 : ((c : Int) + 1 == 0) = false := by simp; omega
    go_enter Try.func28, Try.ntmps28
    go_wp2
    go_quiet (fail)
    go_wp2
    go_region_held3 (fun w' => w'.cell? ⟨p, 0, none⟩ = some (Value.slice (some ⟨g, 0, none⟩) n n) ∧ w'.cell? ⟨p, 1, none⟩ = some (Value.int .i64 f)) (go_keep) ((fail))
    go_wp2_with fail
    have h2 : Hd ((w.drewN (nq + 1)).setCell ⟨g, f, none⟩ (C 0)) p (some ⟨g, 0, none⟩) n f (c + 1) r := h1
    have hP := place_any h2 (by omega) (by omega) (by omega) 1 (by omega)
    refine hP.mono ?_
    clear hP
    rintro e w' ⟨rfl, m, rfl⟩
    go_wp2
    go_ret2
    refine ⟨rfl, ⟨n, _, _, hL.same rfl⟩, ?_⟩
    exact (((((Within.refl w _).draws _).put g _ _ (.inl (.inr rfl))).draws _).put p _ _ (.inl (.inl rfl))).put p _ _ (.inl (.inl rfl))

/-- What is told of all: a row of its own. -/
def AllPost (w : World) (p : Nat) (og : Option Nat) (r : Nat) (vs : List Int) (e : Ending) (w' : World) : Prop :=
  ∃ q, e = .returned (.slice (some ⟨q, 0, none⟩) vs.length vs.length) ∧ Bk w' q 31 (rowOf C vs) ∧ Rg w' p og r vs ∧ w.heap.size ≤ q ∧ w.grownBy w' none
end
end Go.Proofs.Yteeaminfhpcdmaa.RWord
