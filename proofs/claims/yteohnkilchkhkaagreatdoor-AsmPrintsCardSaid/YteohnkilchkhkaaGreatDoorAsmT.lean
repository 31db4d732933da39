/- asm.ownName, asm.isGoal, asm.ownLabels, asm.ownText. -/
import Derived.Test.YteohnkilchkhkaaGreatDoorAsmS
import Derived.Test.YteohnkilchkhkaaGreatDoorAsmC
import Derived.Test.YteohnkilchkhkaaGreatDoorSame
namespace Go.Proofs.YteohnkilchkhkaaGreatDoor
open Go.ChangeShapes Go.WideShapes Go.ChangeAt Go.RowKit Go.Shelf
set_option linter.unusedVariables false

set_option maxHeartbeats 1000000 in
theorem cOwnName (c : Prg) (v : Value) (w : World) (hv : Pv w v c) (p : Int) (p0 : 0 ≤ p) (p1 : p < 1000000) (L : Lb w) :
    Calls Tryz.prog 50 #[v, .int .i64 p] w fun e w' => e = .returned (bs (labelL c p)) ∧ Below w.heap.size w w' := by
  obtain ⟨a, ca, rfl, _, _, _, ha⟩ := hv
  have k1 := Bk.made w 25 #[.slice a c.l.length ca, .int .i64 c.lo, .int .i64 c.un]
  have b0 : Below w.heap.size w (w.alloc (.cells #[.slice a c.l.length ca, .int .i64 c.lo, .int .i64 c.un] 25)) := (Below.refl _ _).alloc (Nat.le_refl _) _
  have HL : Hid (labelL c p = if p = c.lo then lockW else if p = c.un then unlockW else 108 :: Lib.itoa p) := Lib.hid rfl
  generalize labelL c p = r at *
  clear ha
  go_enter Tryz.func50, Tryz.ntmps50
  go_upto_region 1 with fail
  generalize w.alloc (.cells #[.slice a c.l.length ca, .int .i64 c.lo, .int .i64 c.un] 25) = x at *
  obtain ⟨x1, x2⟩ : x.cell? ⟨w.heap.size, 1, none⟩ = some (.int .i64 c.lo) ∧ x.cell? ⟨w.heap.size, 2, none⟩ = some (.int .i64 c.un) := ⟨k1.cell 1, k1.cell 2⟩
  generalize c.lo = lo at *
  generalize c.un = un at *
  by_cases h1 : p = lo
  · have HQ : Hid (r = lockW) := Lib.hid (by rw [HL.out, if_pos h1])
    have e1 : (p == lo) = true := by simpa using h1
    clear HL h1
    go_wp2
    go_ret
    exact ⟨by rw [HQ.out]; rfl, b0⟩
  have e1 : (p == lo) = false := by simpa using h1
  by_cases h2 : p = un
  · have HQ : Hid (r = unlockW) := Lib.hid (by rw [HL.out, if_neg h1, if_pos h2])
    have e2 : (p == un) = true := by simpa using h2
    clear HL h1 h2
    go_wp2
    go_ret
    exact ⟨by rw [HQ.out]; rfl, b0⟩
  have e2 : (p == un) = false := by simpa using h2
  have HQ : Hid (r = 108 :: Lib.itoa p) := Lib.hid (by rw [HL.out, if_neg h1, if_neg h2])
  have HI := Lib.hid (lItoa p (by omega) (by omega) x (L.below b0))
  have hlen := itoa_len p (by omega) (by omega)
  have hc := cat_bs [108] (Lib.itoa p)
  have hc2 : ¬ 9223372036854775807 < 1 + (Lib.itoa p).length := by omega
  clear HL h1 h2 hlen
  generalize Lib.itoa p = s at *
  go_wp2_with fail
  refine HI.out.mono ?_
  rintro e y ⟨rfl, hy⟩
  unfold bs
  go_wp2
  go_ret
  exact ⟨by rw [HQ.out]; rfl, b0.trans (hy.mono b0.size)⟩

/-- It goes to place p. -/
def toB (p : Int) (i : Ins) : Bool := placeB i && decide (i.pl = p)
set_option maxHeartbeats 1000000 in
theorem cIsGoal1 (i : Ins) (p : Int) (b : Nat) (w : World) (hb : Bk w b 3 #[.int .i64 p]) :
    Calls Tryz.prog 68 #[iv i, .pointer (some ⟨b, 0, none⟩)] w fun e w' => e = .returned (.bool (toB p i)) ∧ Below w.heap.size w w' := by
  have HT : Hid (toB p i = (placeB i && decide (i.pl = p))) := Lib.hid rfl
  generalize toB p i = r at *
  have HH := Lib.hid (fun W => cHasPlace i W)
  obtain ⟨op, d, s, t, u, a', k', pl⟩ := i
  have m2 := Ib.made w op d s t u a' k' pl
  have b0 : Below w.heap.size w (w.alloc (.cells #[.int .i64 op, .int .i64 d, .int .i64 s, .int .i64 t, .int .i64 u, .int .i64 a', .int .u32 k', .int .i64 pl] 47)) := (Below.refl _ _).alloc (Nat.le_refl _) _
  replace hb := hb.alloc (.cells #[.int .i64 op, .int .i64 d, .int .i64 s, .int .i64 t, .int .i64 u, .int .i64 a', .int .u32 k', .int .i64 pl] 47)
  unfold iv at HH ⊢
  simp only at HH HT ⊢
  go_enter Tryz.func68, Tryz.ntmps68
  go_upto_region 1 with fail
  generalize w.alloc (.cells #[.int .i64 op, .int .i64 d, .int .i64 s, .int .i64 t, .int .i64 u, .int .i64 a', .int .u32 k', .int .i64 pl] 47) = x at *
  obtain ⟨e0, e1, e2, e3, e4, e5, e6, e7⟩ := m2.cells
  simp only at e0 e1 e2 e3 e4 e5 e6 e7
  go_wp2_with fail
  refine (HH.out x).mono ?_
  rintro e y ⟨rfl, hy⟩
  have c7 : y.cell? ⟨w.heap.size, 7, none⟩ = some (.int .i64 pl) := (hy.cell (p := ⟨w.heap.size, 7, none⟩) (Bk.lt m2)).trans e7
  have cp : y.cell? ⟨b, 0, none⟩ = some (.int .i64 p) := (hy.cell (p := ⟨b, 0, none⟩) hb.lt).trans (hb.cell 0)
  have hz := b0.trans (hy.mono b0.size)
  clear e0 e1 e2 e3 e4 e5 e6 e7 HH m2 hb
  cases hp : placeB ⟨op, d, s, t, u, a', k', pl⟩ with
  | false =>
    rw [hp] at HT
    go_wp2
    go_ret
    exact ⟨by rw [HT.out]; rfl, hz⟩
  | true =>
    rw [hp] at HT
    go_wp2
    go_ret
    refine ⟨?_, hz⟩
    rw [HT.out]
    congr 2

/-- The first that f holds of; -1: none. -/
def idxB (f : Ins → Bool) : List Ins → Nat → Int
  | [], _ => -1
  | i :: l, k => if f i = true then (k : Int) else idxB f l (k + 1)
theorem idxB_any (f : Ins → Bool) : ∀ (l : List Ins) (k : Nat), decide (0 ≤ idxB f l k) = l.any f
  | [], k => by simp [idxB]
  | i :: l, k => by
    have ih := idxB_any f l (k + 1)
    unfold idxB
    by_cases h : f i = true
    · simp [h]
    · simp [h, ih]
theorem idxB_drop (f : Ins → Bool) (l : List Ins) (k : Nat) (h : k < l.length) : idxB f (l.drop k) k = if f l[k] = true then (k : Int) else idxB f (l.drop (k + 1)) (k + 1) := by
  rw [List.drop_eq_getElem_cons h, idxB]

set_option maxHeartbeats 1000000 in
theorem lIndexFunc (l : List Ins) (a : Option Addr) (ca : Nat) (p : Int) (b : Nat) (w : World) (ha : Sli w a l) (hl : l.length ≤ 1000) (hb : Bk w b 3 #[.int .i64 p]) :
    Calls Tryz.prog 76 #[.slice a l.length ca, .func (.func 68) #[] #[.pointer (some ⟨b, 0, none⟩)]] w fun e w' => e = .returned (.int .i64 (idxB (toB p) l 0)) ∧ Below w.heap.size w w' := by
  have HS : Hid (idxB (toB p) l 0 = idxB (toB p) (l.drop 0) 0) := Lib.hid (by simp)
  generalize idxB (toB p) l 0 = r at *
  go_enter Tryz.func76, Tryz.ntmps76
  go_wp2
  go_loopw [4, 8] (fun q i wr => ∃ k : Nat, q = .int .i64 0 ∧ i = .int .i64 k ∧ k ≤ l.length ∧ Below w.heap.size w wr ∧ Hid (r = idxB (toB p) (l.drop k) k)) (fun _ i _ => l.length - (intOf i).toNat)
  case atStart => exact ⟨0, rfl, rfl, Nat.zero_le _, Below.refl _ _, HS⟩
  case round =>
    obtain ⟨k, rfl, rfl, hk, hbw, HR⟩ := hrel
    by_cases hlt : k < l.length
    · have hki : (k : Int) < l.length := by omega
      have HD := Lib.hid (idxB_drop (toB p) l k hlt)
      obtain ⟨g, off, rfl, _, e0, e1, e2, e3, e4, e5, e6, e7⟩ := (ha.below hbw).at_ (List.getElem?_eq_getElem hlt)
      have HG := Lib.hid (fun W (hW : Below w.heap.size w W) => cIsGoal1 l[k] p b W ((hW.block _ hb.lt).trans hb))
      generalize l[k] = i at *
      have HE : Hid (r = if toB p i = true then (k : Int) else idxB (toB p) (l.drop (k + 1)) (k + 1)) := Lib.hid (by rw [HR.out, HD.out])
      clear HR HD ha
      obtain ⟨op, d, s, t, u, a', k', pl⟩ := i
      simp only at e0 e1 e2 e3 e4 e5 e6 e7
      unfold iv at HG
      simp only at HG
      go_wp2_with fail
      refine (HG.out wr hbw).mono ?_
      rintro e y ⟨rfl, hy⟩
      replace hbw := hbw.trans (hy.mono hbw.size)
      clear HG e0 e1 e2 e3 e4 e5 e6 e7
      cases hq : toB p ⟨op, d, s, t, u, a', k', pl⟩ with
      | true =>
        have HQ : Hid (r = (k : Int)) := Lib.hid (by rw [HE.out, if_pos hq])
        clear HE hq
        go_wp2
        go_ret
        exact ⟨by rw [HQ.out]; rfl, hbw⟩
      | false =>
        have HQ : Hid (r = idxB (toB p) (l.drop (k + 1)) (k + 1)) := Lib.hid (by rw [HE.out, if_neg (by rw [hq]; simp)])
        clear HE hq
        go_wp2
        go_roundw
        case rel => exact ⟨k + 1, rfl, by go_num, by omega, hbw, HQ⟩
        case measure =>
          show l.length - ((k : Int) + 1).toNat < l.length - (k : Int).toNat
          omega
    · have hki : ¬ (k : Int) < l.length := by omega
      have HQ : Hid (r = -1) := Lib.hid (by rw [HR.out, List.drop_of_length_le (by omega)]; rfl)
      go_wp2
      go_ret
      exact ⟨by rw [HQ.out]; rfl, hbw⟩

theorem lContains (l : List Ins) (a : Option Addr) (ca : Nat) (p : Int) (b : Nat) (w : World) (ha : Sli w a l) (hl : l.length ≤ 1000) (hb : Bk w b 3 #[.int .i64 p]) :
    Calls Tryz.prog 67 #[.slice a l.length ca, .func (.func 68) #[] #[.pointer (some ⟨b, 0, none⟩)]] w fun e w' => e = .returned (.bool (l.any (toB p))) ∧ Below w.heap.size w w' := by
  have HI := Lib.hid (lIndexFunc l a ca p b w ha hl hb)
  rw [← idxB_any (toB p) l 0]
  generalize idxB (toB p) l 0 = r at *
  go_enter Tryz.func67, Tryz.ntmps67
  go_wp2_with fail
  refine HI.out.mono ?_
  rintro e y ⟨rfl, hy⟩
  by_cases h : 0 ≤ r
  · go_wp2
    go_ret
    exact ⟨by simp [h], hy⟩
  · go_wp2
    go_ret
    exact ⟨by simp, hy⟩

set_option maxHeartbeats 1000000 in
theorem cIsGoal (c : Prg) (v : Value) (w : World) (hv : Pv w v c) (hl : c.l.length ≤ 1000) (p : Int) :
    Calls Tryz.prog 49 #[v, .int .i64 p] w fun e w' => e = .returned (.bool (c.l.any (toB p))) ∧ Below w.heap.size w w' := by
  obtain ⟨a, ca, rfl, _, _, _, ha⟩ := hv
  have k1 := (Bk.made w 25 #[.slice a c.l.length ca, .int .i64 c.lo, .int .i64 c.un]).alloc (.cells #[.int .i64 p] 3)
  have k2 := Bk.made (w.alloc (.cells #[.slice a c.l.length ca, .int .i64 c.lo, .int .i64 c.un] 25)) 3 #[.int .i64 p]
  rw [World.size_alloc] at k2
  have b0 : Below w.heap.size w ((w.alloc (.cells #[.slice a c.l.length ca, .int .i64 c.lo, .int .i64 c.un] 25)).alloc (.cells #[.int .i64 p] 3)) := ((Below.refl _ _).alloc (Nat.le_refl _) _).alloc (by simp) _
  go_enter Tryz.func49, Tryz.ntmps49
  go_upto_region 1 with fail
  generalize (w.alloc (.cells #[.slice a c.l.length ca, .int .i64 c.lo, .int .i64 c.un] 25)).alloc (.cells #[.int .i64 p] 3) = x at *
  have x0 : x.cell? ⟨w.heap.size, 0, none⟩ = some (.slice a c.l.length ca) := k1.cell 0
  have HC := Lib.hid (lContains c.l a ca p (w.heap.size + 1) x (ha.below b0) hl k2)
  go_wp2_with fail
  refine HC.out.mono ?_
  rintro e y ⟨rfl, hy⟩
  go_wp2
  go_ret
  exact ⟨rfl, b0.trans (hy.mono b0.size)⟩
theorem text_len (i : Ins) (h : i.Wf) : (textL i).length ≤ 300 := by
  have h1 := nm_len i.op
  have h2 := parts_len i h (hsL i.op) (hs_ltr i.op)
  have h3 := hs_len i.op
  unfold textL
  rw [List.length_append]
  omega

/-- The labels ahead of a place, as text. -/
def labsTx (c : Prg) (k : Int) : List UInt8 := (labsAt c k).flatMap fun s => s ++ [58, 10]
theorem want_to {c : Prg} (h : ∀ i ∈ c.l, placeB i = goesB i) (p : Int) : c.l.any (toB p) = wantB c p := by
  unfold wantB
  rw [Bool.eq_iff_iff, List.any_eq_true, List.any_eq_true]
  constructor
  · rintro ⟨i, hi, e⟩
    refine ⟨i, hi, ?_⟩
    unfold toB at e
    rw [h i hi] at e
    exact e
  · rintro ⟨i, hi, e⟩
    refine ⟨i, hi, ?_⟩
    unfold toB
    rw [h i hi]
    exact e
theorem label_len (c : Prg) {p : Int} (p0 : 0 ≤ p) (p1 : p < 1000000) : (labelL c p).length ≤ 40 := by
  have := itoa_len p (by omega) (by omega)
  unfold labelL
  split
  · decide
  split
  · decide
  · simp; omega

set_option maxHeartbeats 1000000 in
theorem cOwnLabels (c : Prg) (v : Value) (w : World) (hv : Pv w v c) (hl : c.l.length ≤ 1000) (hg : ∀ i ∈ c.l, placeB i = goesB i) (p : Int) (p0 : 0 ≤ p) (p1 : p < 1000000) (L : Lb w) :
    Calls Tryz.prog 26 #[v, .int .i64 p] w fun e w' => e = .returned (bs (labsTx c p)) ∧ Below w.heap.size w w' := by
  have hv2 := hv
  obtain ⟨a, ca, rfl, _, _, _, ha⟩ := hv
  have k1 := Bk.made w 25 #[.slice a c.l.length ca, .int .i64 c.lo, .int .i64 c.un]
  have b0 : Below w.heap.size w (w.alloc (.cells #[.slice a c.l.length ca, .int .i64 c.lo, .int .i64 c.un] 25)) := (Below.refl _ _).alloc (Nat.le_refl _) _
  have HX : Hid (labsTx c p = (labsAt c p).flatMap fun s => s ++ [58, 10]) := Lib.hid rfl
  have HG := Lib.hid (fun W (hW : Below w.heap.size w W) => cIsGoal c _ W (hv2.below hW) hl p)
  rw [want_to hg p] at HG
  have HN := Lib.hid (fun W (hW : Below w.heap.size w W) => cOwnName c _ W (hv2.below hW) p p0 p1 (L.below hW))
  have hll := label_len c p0 p1
  have hc := cat_bs (labelL c p) [58, 10]
  have hc2 : ¬ 9223372036854775807 < (labelL c p).length + 2 := by omega
  have HA : Hid (labsAt c p = (if p = c.lo then [lockW] else []) ++ ((if p = c.un then [unlockW] else []) ++ (if wantB c p = true ∧ p ≠ c.lo ∧ p ≠ c.un then [labelL c p] else []))) := Lib.hid rfl
  generalize labsTx c p = r at *
  generalize labsAt c p = la at *
  generalize labelL c p = lb at *
  generalize wantB c p = wb at *
  clear ha hll hv2
  go_enter Tryz.func26, Tryz.ntmps26
  go_upto_region 1 with fail
  generalize w.alloc (.cells #[.slice a c.l.length ca, .int .i64 c.lo, .int .i64 c.un] 25) = x at *
  obtain ⟨x0, x1, x2⟩ : x.cell? ⟨w.heap.size, 0, none⟩ = some (.slice a c.l.length ca) ∧ x.cell? ⟨w.heap.size, 1, none⟩ = some (.int .i64 c.lo) ∧ x.cell? ⟨w.heap.size, 2, none⟩ = some (.int .i64 c.un) := ⟨k1.cell 0, k1.cell 1, k1.cell 2⟩
  generalize c.lo = lo at *
  generalize c.un = un at *
  by_cases h1 : p = lo
  · have e1 : (p == lo) = true := by simpa using h1
    by_cases h2 : p = un
    · have e2 : (p == un) = true := by simpa using h2
      have HQ : Hid (r = [108, 111, 99, 107, 58, 10, 117, 110, 108, 111, 99, 107, 58, 10]) := Lib.hid (by rw [HX.out, HA.out, if_pos h1, if_pos h2, if_neg (by simp [h1])]; decide)
      clear HX HA HG HN e1 e2
      have q1 : (⟨#[]⟩ : ByteArray) ++ (⟨#[108, 111, 99, 107, 58, 10]⟩ : ByteArray) = ⟨#[108, 111, 99, 107, 58, 10]⟩ := by rfl
      have q2 : (⟨#[]⟩ : ByteArray) ++ (⟨#[117, 110, 108, 111, 99, 107, 58, 10]⟩ : ByteArray) = ⟨#[117, 110, 108, 111, 99, 107, 58, 10]⟩ := by rfl
      have q3 : (⟨#[108, 111, 99, 107, 58, 10]⟩ : ByteArray) ++ (⟨#[117, 110, 108, 111, 99, 107, 58, 10]⟩ : ByteArray) = ⟨#[108, 111, 99, 107, 58, 10, 117, 110, 108, 111, 99, 107, 58, 10]⟩ := by rfl
      have q4 : ((⟨#[108, 111, 99, 107, 58, 10]⟩ : ByteArray) == (⟨#[]⟩ : ByteArray)) = false := by rfl
      have q5 : ((⟨#[117, 110, 108, 111, 99, 107, 58, 10]⟩ : ByteArray) == (⟨#[]⟩ : ByteArray)) = false := by rfl
      have q6 : ((⟨#[108, 111, 99, 107, 58, 10, 117, 110, 108, 111, 99, 107, 58, 10]⟩ : ByteArray) == (⟨#[]⟩ : ByteArray)) = false := by rfl
      subst h1; subst h2
      go_wp2
      go_ret
      exact ⟨by rw [HQ.out]; rfl, b0⟩
    · have e2 : (p == un) = false := by simpa using h2
      have HQ : Hid (r = [108, 111, 99, 107, 58, 10]) := Lib.hid (by rw [HX.out, HA.out, if_pos h1, if_neg h2, if_neg (by simp [h1])]; decide)
      clear HX HA HG HN e1 e2
      have q1 : (⟨#[]⟩ : ByteArray) ++ (⟨#[108, 111, 99, 107, 58, 10]⟩ : ByteArray) = ⟨#[108, 111, 99, 107, 58, 10]⟩ := by rfl
      have q2 : (⟨#[]⟩ : ByteArray) ++ (⟨#[117, 110, 108, 111, 99, 107, 58, 10]⟩ : ByteArray) = ⟨#[117, 110, 108, 111, 99, 107, 58, 10]⟩ := by rfl
      have q3 : (⟨#[108, 111, 99, 107, 58, 10]⟩ : ByteArray) ++ (⟨#[117, 110, 108, 111, 99, 107, 58, 10]⟩ : ByteArray) = ⟨#[108, 111, 99, 107, 58, 10, 117, 110, 108, 111, 99, 107, 58, 10]⟩ := by rfl
      have q4 : ((⟨#[108, 111, 99, 107, 58, 10]⟩ : ByteArray) == (⟨#[]⟩ : ByteArray)) = false := by rfl
      have q5 : ((⟨#[117, 110, 108, 111, 99, 107, 58, 10]⟩ : ByteArray) == (⟨#[]⟩ : ByteArray)) = false := by rfl
      have q6 : ((⟨#[108, 111, 99, 107, 58, 10, 117, 110, 108, 111, 99, 107, 58, 10]⟩ : ByteArray) == (⟨#[]⟩ : ByteArray)) = false := by rfl
      subst h1; have e3 : (p == un) = false := by simpa using h2
      clear h2
      go_wp2
      go_ret
      exact ⟨by rw [HQ.out]; rfl, b0⟩
  · have e1 : (p == lo) = false := by simpa using h1
    by_cases h2 : p = un
    · have e2 : (p == un) = true := by simpa using h2
      have HQ : Hid (r = [117, 110, 108, 111, 99, 107, 58, 10]) := Lib.hid (by rw [HX.out, HA.out, if_neg h1, if_pos h2, if_neg (by simp [h2])]; decide)
      clear HX HA HG HN e1 e2
      have q1 : (⟨#[]⟩ : ByteArray) ++ (⟨#[108, 111, 99, 107, 58, 10]⟩ : ByteArray) = ⟨#[108, 111, 99, 107, 58, 10]⟩ := by rfl
      have q2 : (⟨#[]⟩ : ByteArray) ++ (⟨#[117, 110, 108, 111, 99, 107, 58, 10]⟩ : ByteArray) = ⟨#[117, 110, 108, 111, 99, 107, 58, 10]⟩ := by rfl
      have q3 : (⟨#[108, 111, 99, 107, 58, 10]⟩ : ByteArray) ++ (⟨#[117, 110, 108, 111, 99, 107, 58, 10]⟩ : ByteArray) = ⟨#[108, 111, 99, 107, 58, 10, 117, 110, 108, 111, 99, 107, 58, 10]⟩ := by rfl
      have q4 : ((⟨#[108, 111, 99, 107, 58, 10]⟩ : ByteArray) == (⟨#[]⟩ : ByteArray)) = false := by rfl
      have q5 : ((⟨#[117, 110, 108, 111, 99, 107, 58, 10]⟩ : ByteArray) == (⟨#[]⟩ : ByteArray)) = false := by rfl
      have q6 : ((⟨#[108, 111, 99, 107, 58, 10, 117, 110, 108, 111, 99, 107, 58, 10]⟩ : ByteArray) == (⟨#[]⟩ : ByteArray)) = false := by rfl
      subst h2; have e3 : (p == lo) = false := by simpa using h1
      clear h1
      go_wp2
      go_ret
      exact ⟨by rw [HQ.out]; rfl, b0⟩
    · have e2 : (p == un) = false := by simpa using h2
      rw [if_neg h1, if_neg h2] at HA
      have H1 := Lib.hid h1
      have H2 := Lib.hid h2
      clear h1 h2
      go_wp2_with fail
      refine (HG.out x b0).mono ?_
      rintro e y ⟨rfl, hy⟩
      replace k1 : Bk y _ _ _ := (hy.block _ k1.lt).trans k1
      have b1 := b0.trans (hy.mono b0.size)
      clear x0 x1 x2
      obtain ⟨x0, x1, x2⟩ : y.cell? ⟨w.heap.size, 0, none⟩ = some (.slice a c.l.length ca) ∧ y.cell? ⟨w.heap.size, 1, none⟩ = some (.int .i64 lo) ∧ y.cell? ⟨w.heap.size, 2, none⟩ = some (.int .i64 un) := ⟨k1.cell 0, k1.cell 1, k1.cell 2⟩
      cases wb with
      | false =>
        have HQ : Hid (r = []) := Lib.hid (by rw [HX.out, HA.out, if_neg (by simp)]; rfl)
        clear HX HA HG HN
        go_wp2
        go_ret
        exact ⟨by rw [HQ.out]; rfl, b1⟩
      | true =>
        have HQ : Hid (r = lb ++ [58, 10]) := Lib.hid (by rw [HX.out, HA.out, if_pos ⟨rfl, H1.out, H2.out⟩]; simp)
        clear HX HA HG
        go_wp2_with fail
        refine (HN.out y b1).mono ?_
        rintro e z ⟨rfl, hz⟩
        unfold bs
        go_wp2
        go_ret
        exact ⟨by rw [HQ.out]; rfl, b1.trans (hz.mono b1.size)⟩

set_option maxHeartbeats 1000000 in
theorem cOwnText (c : Prg) (v : Value) (w : World) (hv : Pv w v c) (i : Ins) (hi : i.Wf) (hr : rightB i 1073741824 = true) (hp : goesB i = true → 0 ≤ i.pl ∧ i.pl < 1000000) (L : Lb w) :
    Calls Tryz.prog 27 #[v, iv i] w fun e w' => e = .returned (bs (insLine c i)) ∧ Below w.heap.size w w' := by
  have hv2 := hv
  obtain ⟨a, ca, rfl, _, _, _, ha⟩ := hv
  have HX : Hid (insLine c i = if goesB i = true then headI i ++ labelL c i.pl else textL i) := Lib.hid rfl
  have HT := Lib.hid (fun W LW => cText i hi W LW)
  have e0 : textV i = .tuple #[bs (textL i), .int .i64 0] := by unfold textV; rw [if_pos hr]
  rw [e0] at HT
  have hpg := place_goes hr
  have HH := Lib.hid (fun W => cHasPlace i W)
  rw [hpg] at HH
  have htl := text_len i hi
  have HC := Lib.hid (fun W => cCutLast (textL i) (by omega) W)
  have HN := Lib.hid (fun W (hW : Below w.heap.size w W) (h : goesB i = true) => cOwnName c _ W (hv2.below hW) i.pl (hp h).1 (hp h).2 (L.below hW))
  have hhl : (headW (textL i)).length ≤ 300 := by unfold headW; simp; omega
  have HHD : Hid (goesB i = true → headW (textL i) = headI i ∧ (labelL c i.pl).length ≤ 40) := Lib.hid fun h => ⟨headW_text i h (hp h).1, label_len c (hp h).1 (hp h).2⟩
  have hcc := cat_bs (headW (textL i)) (labelL c i.pl)
  have HLB := Lib.hid (fun W (hW : Below w.heap.size w W) => L.below hW)
  have k1 := (Bk.made w 25 #[.slice a c.l.length ca, .int .i64 c.lo, .int .i64 c.un]).alloc (.cells #[.int .i64 i.op, .int .i64 i.d, .int .i64 i.s, .int .i64 i.t, .int .i64 i.u, .int .i64 i.a, .int .u32 i.k, .int .i64 i.pl] 47)
  have k2 := Bk.made (w.alloc (.cells #[.slice a c.l.length ca, .int .i64 c.lo, .int .i64 c.un] 25)) 47 #[.int .i64 i.op, .int .i64 i.d, .int .i64 i.s, .int .i64 i.t, .int .i64 i.u, .int .i64 i.a, .int .u32 i.k, .int .i64 i.pl]
  rw [World.size_alloc] at k2
  have b0 : Below w.heap.size w ((w.alloc (.cells #[.slice a c.l.length ca, .int .i64 c.lo, .int .i64 c.un] 25)).alloc (.cells #[.int .i64 i.op, .int .i64 i.d, .int .i64 i.s, .int .i64 i.t, .int .i64 i.u, .int .i64 i.a, .int .u32 i.k, .int .i64 i.pl] 47)) := ((Below.refl _ _).alloc (Nat.le_refl _) _).alloc (by simp) _
  generalize insLine c i = r at *
  generalize labelL c i.pl = lb at *
  generalize headI i = hdi at *
  generalize hgo : goesB i = go at *
  generalize headW (textL i) = hw at *
  generalize lastW (textL i) = lw at *
  generalize textL i = tx at *
  clear e0 hr hi hgo hpg hp ha hv2 L
  obtain ⟨op, d, s, t, u, a', k', pl⟩ := i
  unfold iv at HT HH ⊢
  simp only at HT HH HN k1 k2 b0 ⊢
  go_enter Tryz.func27, Tryz.ntmps27
  go_upto_region 1 with fail
  generalize (w.alloc (.cells #[.slice a c.l.length ca, .int .i64 c.lo, .int .i64 c.un] 25)).alloc (.cells #[.int .i64 op, .int .i64 d, .int .i64 s, .int .i64 t, .int .i64 u, .int .i64 a', .int .u32 k', .int .i64 pl] 47) = x at *
  obtain ⟨c0, c1, c2, c3, c4, c5, c6, c7⟩ : x.cell? ⟨w.heap.size + 1, 0, none⟩ = some (.int .i64 op) ∧ x.cell? ⟨w.heap.size + 1, 1, none⟩ = some (.int .i64 d) ∧ x.cell? ⟨w.heap.size + 1, 2, none⟩ = some (.int .i64 s) ∧ x.cell? ⟨w.heap.size + 1, 3, none⟩ = some (.int .i64 t) ∧ x.cell? ⟨w.heap.size + 1, 4, none⟩ = some (.int .i64 u) ∧ x.cell? ⟨w.heap.size + 1, 5, none⟩ = some (.int .i64 a') ∧ x.cell? ⟨w.heap.size + 1, 6, none⟩ = some (.int .u32 k') ∧ x.cell? ⟨w.heap.size + 1, 7, none⟩ = some (.int .i64 pl) :=
    ⟨k2.cell 0, k2.cell 1, k2.cell 2, k2.cell 3, k2.cell 4, k2.cell 5, k2.cell 6, k2.cell 7⟩
  go_wp2_with fail
  refine (HT.out x (HLB.out x b0)).mono ?_
  rintro e y ⟨rfl, hy⟩
  replace k1 : Bk y _ _ _ := (hy.block _ k1.lt).trans k1
  replace k2 : Bk y _ _ _ := (hy.block _ k2.lt).trans k2
  have b1 := b0.trans (hy.mono b0.size)
  clear c0 c1 c2 c3 c4 c5 c6 c7 HT hy
  obtain ⟨c0, c1, c2, c3, c4, c5, c6, c7⟩ : y.cell? ⟨w.heap.size + 1, 0, none⟩ = some (.int .i64 op) ∧ y.cell? ⟨w.heap.size + 1, 1, none⟩ = some (.int .i64 d) ∧ y.cell? ⟨w.heap.size + 1, 2, none⟩ = some (.int .i64 s) ∧ y.cell? ⟨w.heap.size + 1, 3, none⟩ = some (.int .i64 t) ∧ y.cell? ⟨w.heap.size + 1, 4, none⟩ = some (.int .i64 u) ∧ y.cell? ⟨w.heap.size + 1, 5, none⟩ = some (.int .i64 a') ∧ y.cell? ⟨w.heap.size + 1, 6, none⟩ = some (.int .u32 k') ∧ y.cell? ⟨w.heap.size + 1, 7, none⟩ = some (.int .i64 pl) :=
    ⟨k2.cell 0, k2.cell 1, k2.cell 2, k2.cell 3, k2.cell 4, k2.cell 5, k2.cell 6, k2.cell 7⟩
  unfold bs
  go_wp2_with fail
  refine (HH.out y).mono ?_
  rintro e z ⟨rfl, hz⟩
  replace k1 : Bk z _ _ _ := (hz.block _ k1.lt).trans k1
  replace k2 : Bk z _ _ _ := (hz.block _ k2.lt).trans k2
  have b2 := b1.trans (hz.mono b1.size)
  clear c0 c1 c2 c3 c4 c5 c6 c7 HH hz
  cases go with
  | false =>
    have HQ : Hid (r = tx) := Lib.hid (by rw [HX.out]; simp)
    clear HX
    go_wp2
    go_ret
    exact ⟨by rw [HQ.out]; rfl, b2⟩
  | true =>
    obtain ⟨q1, q2⟩ := HHD.out rfl
    subst q1
    have HQ : Hid (r = hw ++ lb) := Lib.hid (by rw [HX.out]; simp)
    have hc2 : ¬ 9223372036854775807 < hw.length + lb.length := by omega
    clear HX
    go_wp2_with fail
    refine (HC.out z).mono ?_
    rintro e z1 ⟨rfl, hz1⟩
    replace k1 : Bk z1 _ _ _ := (hz1.block _ k1.lt).trans k1
    replace k2 : Bk z1 _ _ _ := (hz1.block _ k2.lt).trans k2
    have b3 := b2.trans (hz1.mono b2.size)
    obtain ⟨x0, x1, x2⟩ : z1.cell? ⟨w.heap.size, 0, none⟩ = some (.slice a c.l.length ca) ∧ z1.cell? ⟨w.heap.size, 1, none⟩ = some (.int .i64 c.lo) ∧ z1.cell? ⟨w.heap.size, 2, none⟩ = some (.int .i64 c.un) := ⟨k1.cell 0, k1.cell 1, k1.cell 2⟩
    have c7 : z1.cell? ⟨w.heap.size + 1, 7, none⟩ = some (.int .i64 pl) := k2.cell 7
    unfold bs
    go_wp2_with fail
    refine (HN.out z1 b3 (by trivial)).mono ?_
    rintro e z2 ⟨rfl, hz2⟩
    unfold bs
    go_wp2
    go_ret
    exact ⟨by rw [HQ.out]; rfl, b3.trans (hz2.mono b3.size)⟩
end Go.Proofs.YteohnkilchkhkaaGreatDoor
