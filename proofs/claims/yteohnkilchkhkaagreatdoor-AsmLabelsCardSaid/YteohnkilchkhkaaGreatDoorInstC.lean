/- inst.part. -/
import Derived.Test.YteohnkilchkhkaaGreatDoorInstB
import Derived.Test.YteohnkilchkhkaaGreatDoorInstL
namespace Go.Proofs.YteohnkilchkhkaaGreatDoor
open Go.ChangeShapes Go.WideShapes Go.ChangeAt Go.RowKit
set_option linter.unusedVariables false

theorem cat_bs (a b : List UInt8) : (⟨a.toArray⟩ : ByteArray) ++ ⟨b.toArray⟩ = ⟨(a ++ b).toArray⟩ := by
  apply ByteArray.ext
  simp
theorem run_cat (a b : List UInt8) (h : a.length + b.length < 1000000) (w : World) : (binOp .add 9 (.string ⟨a.toArray⟩) (.string ⟨b.toArray⟩)).run Tryz.prog w = .ok (.string ⟨(a ++ b).toArray⟩) w := by
  have hu := Tryz.underlying9
  go_simp
  rw [if_neg (by omega), cat_bs]
theorem ret_bs {a b : List UInt8} (h : a = b) : Ending.returned (.string ⟨a.toArray⟩) = .returned (bs b) := by rw [h]; rfl

/-- What partOfK answers. -/
def kL (i : Ins) (l : List UInt8) : List UInt8 := if i.op = 21 then (if i.k = 0 then [32, 101, 113] else [32, 110, 101]) else 32 :: l
def placeL (i : Ins) (l : List UInt8) : List UInt8 := if i.op = 21 then (if i.pl = -1 then [] else [32, 101, 108, 115, 101, 32] ++ l) else 32 :: l

theorem cPartK (i : Ins) (l : List UInt8) (hl : l.length < 100000) (w : World) :
    Calls Tryz.prog 78 #[iv i, bs l] w fun e w' => e = .returned (bs (kL i l)) ∧ Below w.heap.size w w' := by
  obtain ⟨op, d, s, t, u, a, k, pl⟩ := i
  unfold iv bs
  have E : kL ⟨op, d, s, t, u, a, k, pl⟩ l = (if op = 21 then (if k = 0 then [32, 101, 113] else [32, 110, 101]) else 32 :: l) := rfl
  by_cases h : op = 21
  · subst h
    by_cases hk : k = 0
    · subst hk
      have HE := Lib.hid E
      clear E
      go_enter Tryz.func78, Tryz.ntmps78
      go_wp2
      go_ret
      exact ⟨ret_bs HE.out.symm, (Below.refl _ _).alloc (Nat.le_refl _) _⟩
    · have hk2 : (k == 0) = false := by simpa using hk
      rw [if_pos rfl, if_neg hk] at E
      have HE := Lib.hid E
      clear E hk
      go_enter Tryz.func78, Tryz.ntmps78
      go_wp2
      go_ret
      exact ⟨ret_bs HE.out.symm, (Below.refl _ _).alloc (Nat.le_refl _) _⟩
  · have h1 : (op != 21) = true := by simpa using h
    have h2 : (op == 21) = false := by simpa using h
    rw [if_neg h] at E
    have HE := Lib.hid E
    have hc := run_cat [32] l (by simp; omega)
    clear E h
    go_enter Tryz.func78, Tryz.ntmps78
    go_wp2
    go_ret
    exact ⟨ret_bs HE.out.symm, (Below.refl _ _).alloc (Nat.le_refl _) _⟩

theorem cPartPlace (i : Ins) (l : List UInt8) (hl : l.length < 100000) (w : World) :
    Calls Tryz.prog 79 #[iv i, bs l] w fun e w' => e = .returned (bs (placeL i l)) ∧ Below w.heap.size w w' := by
  obtain ⟨op, d, s, t, u, a, k, pl⟩ := i
  unfold iv bs
  have E : placeL ⟨op, d, s, t, u, a, k, pl⟩ l = (if op = 21 then (if pl = -1 then [] else [32, 101, 108, 115, 101, 32] ++ l) else 32 :: l) := rfl
  by_cases h : op = 21
  · subst h
    by_cases hk : pl = -1
    · subst hk
      have HE := Lib.hid E
      clear E
      go_enter Tryz.func79, Tryz.ntmps79
      go_wp2
      go_ret
      exact ⟨ret_bs HE.out.symm, (Below.refl _ _).alloc (Nat.le_refl _) _⟩
    · have hk2 : (pl == -1) = false := by simpa using hk
      rw [if_pos rfl, if_neg hk] at E
      have HE := Lib.hid E
      have hc := run_cat [32, 101, 108, 115, 101, 32] l (by simp; omega)
      clear E hk
      go_enter Tryz.func79, Tryz.ntmps79
      go_wp2
      go_ret
      exact ⟨ret_bs HE.out.symm, (Below.refl _ _).alloc (Nat.le_refl _) _⟩
  · have h1 : (op != 21) = true := by simpa using h
    have h2 : (op == 21) = false := by simpa using h
    rw [if_neg h] at E
    have HE := Lib.hid E
    have hc := run_cat [32] l (by simp; omega)
    clear E h
    go_enter Tryz.func79, Tryz.ntmps79
    go_wp2
    go_ret
    exact ⟨ret_bs HE.out.symm, (Below.refl _ _).alloc (Nat.le_refl _) _⟩

theorem itoa_len (n : Int) (h0 : -9223372036854775808 ≤ n) (h1 : n ≤ 9223372036854775807) : (Lib.itoa n).length ≤ 30 := by
  have key : ∀ (m u : Nat), u < 10 ^ (m + 1) → (Lib.decDigits u).length ≤ m + 1 := by
    intro m
    induction m with
    | zero => intro u hu; rw [Lib.decDigits, dif_pos (by simpa using hu)]; simp
    | succ m ih =>
      intro u hu
      rw [Lib.decDigits]
      by_cases h : u < 10
      · rw [dif_pos h]; simp
      · rw [dif_neg h]
        have h2 : u / 10 < 10 ^ (m + 1) := by
          rw [Nat.div_lt_iff_lt_mul (by decide)]
          rw [Nat.pow_succ] at hu
          exact hu
        have := ih _ h2
        simp
        omega
  have e : (10 : Nat) ^ (19 + 1) = 100000000000000000000 := by decide
  unfold Lib.itoa
  split
  · have := key 19 n.natAbs (by rw [e]; omega)
    simp; omega
  · have := key 19 n.toNat (by rw [e]; omega)
    omega

theorem part_eq (i : Ins) (c : Int) (hc : Ltr c) : partL i c = (if c = 65 then 32 :: Lib.itoa (getI i c) else if c = 75 then kL i (Lib.itoa (getI i c)) else if c = 80 then placeL i (Lib.itoa (getI i c)) else [32, 114] ++ Lib.itoa (getI i c)) := by
  rcases hc with rfl | rfl | rfl | rfl | rfl | rfl | rfl <;> rfl

/-- What a letter stands for fits an int. -/
theorem get_fits (i : Ins) (h : i.Wf) (c : Int) : -9223372036854775808 ≤ getI i c ∧ getI i c ≤ 9223372036854775807 := by
  obtain ⟨h1, h2, h3, h4, h5, h6, h7, h8, h9, h10, h11, h12, h13, h14, h15, h16⟩ := h
  unfold getI
  repeat' split
  all_goals omega

theorem cPart (i : Ins) (h : i.Wf) (c : Int) (hc : Ltr c) (w : World) (L : Lb w) :
    Calls Tryz.prog 70 #[iv i, .int .u8 c] w fun e w' => e = .returned (bs (partL i c)) ∧ Below w.heap.size w w' := by
  obtain ⟨g0, g1⟩ := get_fits i h c
  have HG := Lib.hid (fun W => cGet i c hc h.k0 h.k1 W)
  have hil := itoa_len _ g0 g1
  have HI := Lib.hid (fun W LW => lItoa (getI i c) g0 g1 W LW)
  have E := part_eq i c hc
  have HK := Lib.hid (fun W => cPartK i (Lib.itoa (getI i c)) (by omega) W)
  have HP := Lib.hid (fun W => cPartPlace i (Lib.itoa (getI i c)) (by omega) W)
  generalize Lib.itoa (getI i c) = l at *
  generalize getI i c = v at *
  have c1 := run_cat [32] l (by simp; omega)
  have c2 := run_cat [32, 114] l (by simp; omega)
  have HE := Lib.hid E
  clear E
  generalize partL i c = pp at *
  obtain ⟨op, d, s, t, u, a, k, pl⟩ := i
  unfold iv
  rcases hc with rfl | rfl | rfl | rfl | rfl | rfl | rfl
  all_goals
    go_enter Tryz.func70, Tryz.ntmps70
    go_wp2_with fail
    refine (HG.out _).mono ?_
    rintro e x ⟨rfl, hx⟩
    obtain ⟨hIb, hb⟩ := boxed hx
    have hlt : w.heap.size < x.heap.size := Bk.lt hIb
    clear hx
    go_wp2_with fail
    refine (HI.out _ (L.below hb)).mono ?_
    rintro e y ⟨rfl, hy⟩
    replace hIb := hIb.below hy
    replace hb := hb.trans (hy.mono (Nat.le_of_lt hlt))
    clear hy hlt
    obtain ⟨c0, c1, c2, c3, c4, c5, c6, c7⟩ := hIb.cells
    simp only at c0 c1 c2 c3 c4 c5 c6 c7
    unfold bs
    first
      | (go_wp2_with fail
         refine (HK.out _).mono ?_
         rintro e z ⟨rfl, hz⟩
         go_wp2
         go_ret
         exact ⟨by rw [HE.out]; rfl, hb.trans (hz.mono hb.size)⟩)
      | (go_wp2_with fail
         refine (HP.out _).mono ?_
         rintro e z ⟨rfl, hz⟩
         go_wp2
         go_ret
         exact ⟨by rw [HE.out]; rfl, hb.trans (hz.mono hb.size)⟩)
      | (go_wp2
         go_ret
         exact ⟨by rw [HE.out]; rfl, hb⟩)
end Go.Proofs.YteohnkilchkhkaaGreatDoor
