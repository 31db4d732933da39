/- ExN, EyS, ExL, ExW, EyM. -/
import Derived.Test.YtpinpipjlongaaaGreatKExG
import Derived.Test.YtpinpipjlongaaaGreatKArA
import Derived.Test.YtpinpipjlongaaaGreatKCoreM
import Derived.Test.YtpinpipjlongaaaGreatKEyD
import Derived.Test.YtpinpipjlongaaaGreatKEyD2
import Derived.Test.YtpinpipjlongaaaGreatKEyD3
import Derived.Test.YtpinpipjlongaaaGreatKEyE1
import Derived.Test.YtpinpipjlongaaaGreatKEyE2
import Derived.Test.YtpinpipjlongaaaGreatKEyE3
import Derived.Test.YtpinpipjlongaaaGreatKEyE4
import Derived.Test.YtpinpipjlongaaaGreatKEyE5
import Derived.Test.YtpinpipjlongaaaGreatKEyE6
import Derived.Test.YtpinpipjlongaaaGreatKEyE7
import Derived.Test.YtpinpipjlongaaaGreatKEyE8
import Derived.Test.YtpinpipjlongaaaGreatKEyE9
import Derived.Test.YtpinpipjlongaaaGreatKInstW
import Derived.Test.YtpinpipjlongaaaGreatKCoreV
import Derived.Test.YtpinpipjlongaaaGreatKExF
import Derived.ProofKit
import Derived.OpenShut
import Derived.Lib.SmallJoins
/- Layer 10 (exec): New, of a right spec. -/
namespace Go.Proofs.YtpinpipjlongaaaGreat
set_option maxRecDepth 100000
open Go.ChangeShapes Go.WideShapes Go.ChangeAt Go.RowKit
set_option linter.unusedVariables false

/-- The value v is a spec. -/
def Sv (w : World) (v : Value) (c : Prg) (zs init r7 : List Int) (each : Int) : Prop :=
  ∃ aL cL aS cS aI cI aR cR, v = .agg #[.slice aL c.l.length cL, .int .i64 c.lo, .int .i64 c.un, .slice aS zs.length cS, .slice aI init.length cI, .int .i64 each, .slice aR r7.length cR] ∧
    Pv w (.agg #[.slice aL c.l.length cL, .int .i64 c.lo, .int .i64 c.un]) c ∧ Given .i64 w aS zs ∧ Given .u32 w aI init ∧ Given .u32 w aR r7 ∧ zs.length ≤ maxLen ∧ init.length ≤ maxLen ∧ r7.length ≤ maxLen
theorem Given.below {k : IntKind} {w w' : World} {a : Option Addr} {xs : List Int} (h : Given k w a xs) (hb : Below w.heap.size w w') : Given k w' a xs := h.grown (grown_of_below hb)
theorem Sv.below {w w' : World} {v : Value} {c : Prg} {zs init r7 : List Int} {each : Int} (h : Sv w v c zs init r7 each) (hb : Below w.heap.size w w') : Sv w' v c zs init r7 each := by
  obtain ⟨aL, cL, aS, cS, aI, cI, aR, cR, e, h1, h2, h3, h4, h5⟩ := h
  exact ⟨aL, cL, aS, cS, aI, cI, aR, cR, e, h1.below hb, h2.below hb, h3.below hb, h4.below hb, h5⟩

/-- The cores while New lays the last registers: k of them are laid. -/
def csj (r7 : List Int) (j : Nat) : Nat → Cor := fun t => if t < j then ⟨[0, 0, 0, 0, 0, 0, 0, nth r7 t], 0⟩ else ⟨[0, 0, 0, 0, 0, 0, 0, 0], 0⟩
theorem csj_0 (r7 : List Int) : csj r7 0 = fun _ => ⟨[0, 0, 0, 0, 0, 0, 0, 0], 0⟩ := by funext t; simp [csj]
theorem csj_next (r7 : List Int) (j : Nat) : updN (csj r7 j) j ⟨(csj r7 j j).xs.set 7 (nth r7 j), (csj r7 j j).pc⟩ = csj r7 (j + 1) := by
  funext t
  unfold updN csj
  by_cases e : t = j
  · subst e; simp
  · by_cases h : t < j
    · simp [e, h, show t < j + 1 by omega]
    · simp [e, h, show ¬ t < j + 1 by omega]
theorem csj_all {k : Lk} {init r7 : List Int} (h : r7.length = k.n) : csj r7 k.n = (newM k init r7).cs := by
  funext t
  unfold csj newM
  by_cases e : t < k.n
  · simp [e]
  · have : nth r7 t = 0 := by unfold nth; rw [List.getD_eq_getElem?_getD, List.getElem?_eq_none (by omega)]; rfl
    simp [e, this]
theorem coresC_set {cs : Nat → Cor} {n : Nat} (h : ∀ t, t < n → Eight (cs t).xs) {t j : Nat} (ht : t < n) (hj : j < 8) {v : Int} (hv : 0 ≤ v ∧ v < 4294967296) : (coresC cs n).set (t * 9 + j) (.int .u32 v) = coresC (updN cs t ⟨(cs t).xs.set j v, (cs t).pc⟩) n := by
  have hc : Eight ((⟨(cs t).xs.set j v, (cs t).pc⟩ : Cor).xs) := (h t ht).put j hv
  have h2 := updN_eight (n := n) h hc t
  have hl := coresC_len h
  have hl2 := coresC_len h2
  apply List.ext_getElem?
  intro i
  by_cases hi : i < n * 9
  · obtain ⟨s, q, hs, hq, rfl⟩ : ∃ s q, s < n ∧ q < 9 ∧ i = s * 9 + q := ⟨i / 9, i % 9, by omega, by omega, by omega⟩
    rw [List.getElem?_set, coresC_at h2 hs hq, coresC_at h hs hq]
    by_cases e : s = t
    · subst e
      rw [updN_same]
      by_cases eq : q = j
      · subst eq
        rw [if_pos rfl, if_pos (by omega)]
        have h8 := (h s hs).1
        simp only
        unfold corC
        rw [List.getElem?_append_left (by simp; omega), List.getElem?_map, List.getElem?_set_self (by omega)]
        rfl
      · rw [if_neg (by omega)]
        simp only
        unfold corC
        rw [List.getElem?_append, List.getElem?_append]
        simp only [List.length_map, List.length_set]
        split
        · rw [List.getElem?_map, List.getElem?_map, List.getElem?_set_ne (fun e => eq e.symm)]
        · rfl
    · rw [if_neg (by omega), updN_other e]
  · rw [List.getElem?_eq_none (by rw [List.length_set]; omega), List.getElem?_eq_none (by omega)]
theorem made_cores (n : Nat) : madeCells #[.int .u32 0, .int .u32 0, .int .u32 0, .int .u32 0, .int .u32 0, .int .u32 0, .int .u32 0, .int .u32 0, .int .i64 0] (n * 9) = (coresC (fun _ => ⟨[0, 0, 0, 0, 0, 0, 0, 0], 0⟩) n).toArray := by
  have h8 : ∀ t, t < n → Eight ((fun _ => ⟨[0, 0, 0, 0, 0, 0, 0, 0], 0⟩ : Nat → Cor) t).xs := fun _ _ => ⟨rfl, U32s.zeros 8⟩
  have hl := coresC_len h8
  apply Array.ext_getElem?
  intro i
  have hr : (coresC (fun _ => ⟨[0, 0, 0, 0, 0, 0, 0, 0], 0⟩) n).toArray[i]? = (coresC (fun _ => ⟨[0, 0, 0, 0, 0, 0, 0, 0], 0⟩) n)[i]? := List.getElem?_toArray
  rw [hr]
  clear hr
  by_cases hi : i < n * 9
  · obtain ⟨s, q, hs, hq, rfl⟩ : ∃ s q, s < n ∧ q < 9 ∧ i = s * 9 + q := ⟨i / 9, i % 9, by omega, by omega, by omega⟩
    rw [coresC_at h8 hs hq]
    have e3 : (s * 9 + q) % 9 = q := by omega
    have hq' : q = 0 ∨ q = 1 ∨ q = 2 ∨ q = 3 ∨ q = 4 ∨ q = 5 ∨ q = 6 ∨ q = 7 ∨ q = 8 := by omega
    have hsz : s * 9 + q < (madeCells #[.int .u32 0, .int .u32 0, .int .u32 0, .int .u32 0, .int .u32 0, .int .u32 0, .int .u32 0, .int .u32 0, .int .i64 0] (n * 9)).size := by rw [size_madeCells]; exact hi
    rw [Array.getElem?_eq_getElem hsz]
    simp only [madeCells, Array.getElem_map, Array.getElem_range]
    simp only [List.size_toArray, List.length_cons, List.length_nil, Nat.zero_add, Nat.reduceAdd, e3]
    rcases hq' with rfl | rfl | rfl | rfl | rfl | rfl | rfl | rfl | rfl <;> rfl
  · rw [Array.getElem?_eq_none (by rw [size_madeCells]; omega), List.getElem?_eq_none (by omega)]
section
variable {w w' : World} {X : XP} {k : Lk} {m : Mc}
/-- One register of one thread is another. -/
theorem Ex.setReg (h : Ex w X k m) {t j : Nat} (ht : t < k.n) (hj : j < 8) {v : Int} (hv : 0 ≤ v ∧ v < 4294967296) : Ex (w.setCell ⟨X.kb, t * 9 + j, none⟩ (.int .u32 v)) X k { m with cs := updN m.cs t ⟨(m.cs t).xs.set j v, (m.cs t).pc⟩ } := by
  have hW : Within w (w.setCell ⟨X.kb, t * 9 + j, none⟩ (.int .u32 v)) (fun i => i = X.kb) := (Within.refl _ _).put _ _ _ (.inl rfl)
  obtain ⟨fr, os, cn, hp, hs⟩ := h.pool
  have hb := h.cores.put (t * 9 + j) (.int .u32 v)
  rw [List.setIfInBounds_toArray, coresC_set h.mc.cs ht hj hv] at hb
  refine ⟨h.ptr.within hW (Bk.unlike h.ptr h.cores (by decide)), own_within h.code hW (fun g e e2 => ?_), hb, h.mem.within hW (Bk.unlike h.mem.ptr h.cores (by decide)) (Bk.unlike h.mem.cel.ptr h.cores (by decide)) (Bk.unlike h.mem.cel.row h.cores (by decide)) (Bk.unlike h.mem.row h.cores (by decide)),
    ⟨fr, os, cn, hp.kept hW (Bk.unlike hp.ptr h.cores (by decide)) (Bk.unlike hp.row h.cores (by decide)) (fun i hi e => hp.not_has h.cores (by decide) (by decide) (e ▸ hi)), hs⟩, h.lk, ⟨h.mc.ws, h.mc.len, updN_eight h.mc.cs ((h.mc.cs t ht).put j hv) t⟩⟩
  obtain ⟨cs', hcs⟩ := own_bk h.code e
  exact Bk.unlike hcs h.cores (by decide) e2
/-- What New returns: a lock at work, all of it new. -/
def NewX (w : World) (k : Lk) (init r7 : List Int) (e : Ending) (w' : World) : Prop :=
  ∃ X, e = .returned (.tuple #[.pointer (some ⟨X.x, 0, none⟩), .int .i64 0]) ∧ Ex w' X k (newM k init r7) ∧ Below w.heap.size w w' ∧ ∀ i, X.Own k.n i → w.heap.size ≤ i
theorem coreInfo : (Tryz.prog.info? 66).map (fun i => (i.zero, i.size, i.bytes)) = some (some (.agg #[.int .u32 0, .int .u32 0, .int .u32 0, .int .u32 0, .int .u32 0, .int .u32 0, .int .u32 0, .int .u32 0, .int .i64 0]), 9, 40) := by kernel_rfl

/-- What the parts of a new lock leave: the program's copy; the cores' row; the struct's value; its block. -/
def NwA (w : World) (k : Lk) (v : Value) (W : World) : Prop := ∃ sl, v = .agg #[sl, .int .i64 k.lo, .int .i64 k.un] ∧ W.ownsRow w.heap.size 45 8 sl k.l.length (progC k.l)
def NwB (w : World) (k : Lk) (v : Value) (W : World) : Prop := ∃ b, v = .slice (some ⟨b, 0, none⟩) k.n k.n ∧ w.heap.size ≤ b ∧ Bk W b 66 (coresC (fun _ => ⟨[0, 0, 0, 0, 0, 0, 0, 0], 0⟩) k.n).toArray
def NwC (w : World) (k : Lk) (p pp : Nat) (v : Value) (W : World) : Prop := ∃ sl b, v = .agg #[sl, .int .i64 k.lo, .int .i64 k.un, .pointer (some ⟨p, 0, none⟩), .pointer (some ⟨pp, 0, none⟩), .slice (some ⟨b, 0, none⟩) k.n k.n] ∧ W.ownsRow w.heap.size 45 8 sl k.l.length (progC k.l) ∧ w.heap.size ≤ b ∧ Bk W b 66 (coresC (fun _ => ⟨[0, 0, 0, 0, 0, 0, 0, 0], 0⟩) k.n).toArray
def NwD (w : World) (k : Lk) (p pp : Nat) (v : Value) (W : World) : Prop := ∃ x sl b, v = .pointer (some ⟨x, 0, none⟩) ∧ w.heap.size ≤ x ∧ Bk W x 78 #[sl, .int .i64 k.lo, .int .i64 k.un, .pointer (some ⟨p, 0, none⟩), .pointer (some ⟨pp, 0, none⟩), .slice (some ⟨b, 0, none⟩) k.n k.n] ∧ W.ownsRow w.heap.size 45 8 sl k.l.length (progC k.l) ∧ w.heap.size ≤ b ∧ Bk W b 66 (coresC (fun _ => ⟨[0, 0, 0, 0, 0, 0, 0, 0], 0⟩) k.n).toArray
theorem own_below {W W' : World} {base n sz : Nat} {t : TypeId} {v : Value} {xs : List Value} (h : W.ownsRow base t sz v n xs) (hb : Below W.heap.size W W') : W'.ownsRow base t sz v n xs := own_within h (within_of_below hb) (by simp)
theorem NwA.below {W W' : World} {v : Value} (h : NwA w k v W) (hb : Below W.heap.size W W') : NwA w k v W' := by
  obtain ⟨sl, e, h⟩ := h
  exact ⟨sl, e, own_below h hb⟩
theorem NwB.below {W W' : World} {v : Value} (h : NwB w k v W) (hb : Below W.heap.size W W') : NwB w k v W' := by
  obtain ⟨b, e, h1, h2⟩ := h
  exact ⟨b, e, h1, (hb.block _ h2.lt).trans h2⟩
theorem NwC.below {W W' : World} {p pp : Nat} {v : Value} (h : NwC w k p pp v W) (hb : Below W.heap.size W W') : NwC w k p pp v W' := by
  obtain ⟨sl, b, e, h1, h2, h3⟩ := h
  exact ⟨sl, b, e, own_below h1 hb, h2, (hb.block _ h3.lt).trans h3⟩
theorem NwD.below {W W' : World} {p pp : Nat} {v : Value} (h : NwD w k p pp v W) (hb : Below W.heap.size W W') : NwD w k p pp v W' := by
  obtain ⟨x, sl, b, e, h1, h2, h3, h4, h5⟩ := h
  exact ⟨x, sl, b, e, h1, (hb.block _ h2.lt).trans h2, own_below h3 hb, h4, (hb.block _ h5.lt).trans h5⟩

set_option maxHeartbeats 4000000 in
theorem xNew {v : Value} {init r7 : List Int} (hk : OkLk k) (hv : Sv w v ⟨k.l, k.lo, k.un⟩ k.zs init r7 k.each) (hi : init.length = tot k.zs) (hiu : U32s init) (hr : r7.length = k.n) (hru : U32s r7) :
    Calls Tryz.prog 8 #[v, .int .i64 k.n] w (NewX w k init r7) := by
  have HI := Lib.hid (And.intro hi (And.intro hiu (And.intro hr hru)))
  clear hi hiu hr hru
  have hn1 := hk.n1
  have hn64 := hk.n64
  have hl64 := hk.parts.2.1
  obtain ⟨aL, cL, aS, cS, aI, cI, aR, cR, rfl, hpv, hgS, hgI, hgR, hm1, hm2, hm3⟩ := hv
  simp only at hpv ⊢
  obtain ⟨i0, hi0, hz0, hz1, hz2⟩ := info_parts coreInfo
  have hmk := fun W : World => run_make (P := Tryz.prog) W 76 66 i0 _ Tryz.underlying76 hi0 hz0 .i64 .i64 k.n k.n (by omega) (by omega) (by rw [hz2]; omega) (by omega)
  rw [hz1] at hmk
  clear hi0 hz0 hz1 hz2
  have HMK := Lib.hid hmk
  clear hmk
  have q0 := Bk.made w 28 #[.slice aL k.l.length cL, .int .i64 k.lo, .int .i64 k.un, .slice aS k.zs.length cS, .slice aI init.length cI, .int .i64 k.each, .slice aR r7.length cR]
  have b0 : Below w.heap.size w (w.alloc (.cells #[.slice aL k.l.length cL, .int .i64 k.lo, .int .i64 k.un, .slice aS k.zs.length cS, .slice aI init.length cI, .int .i64 k.each, .slice aR r7.length cR] 28)) := (Below.refl _ _).alloc (Nat.le_refl _) _
  go_enter Tryz.func8, Tryz.ntmps8
  go_upto_region 1 with fail
  generalize w.alloc (.cells #[.slice aL k.l.length cL, .int .i64 k.lo, .int .i64 k.un, .slice aS k.zs.length cS, .slice aI init.length cI, .int .i64 k.each, .slice aR r7.length cR] 28) = y at *
  have hR := cAsmRightK ⟨k.l, k.lo, k.un⟩ _ y (hpv.below b0) hk.k32
  rw [hk.code] at hR
  obtain ⟨y0, y1, y2, y3, y4, y5, y6⟩ : y.cell? ⟨w.heap.size, 0, none⟩ = some (.slice aL k.l.length cL) ∧ y.cell? ⟨w.heap.size, 1, none⟩ = some (.int .i64 k.lo) ∧ y.cell? ⟨w.heap.size, 2, none⟩ = some (.int .i64 k.un) ∧ y.cell? ⟨w.heap.size, 3, none⟩ = some (.slice aS k.zs.length cS) ∧ y.cell? ⟨w.heap.size, 4, none⟩ = some (.slice aI init.length cI) ∧ y.cell? ⟨w.heap.size, 5, none⟩ = some (.int .i64 k.each) ∧ y.cell? ⟨w.heap.size, 6, none⟩ = some (.slice aR r7.length cR) := ⟨q0.cell 0, q0.cell 1, q0.cell 2, q0.cell 3, q0.cell 4, q0.cell 5, q0.cell 6⟩
  go_wp2_with fail
  refine hR.mono ?_
  rintro e z1 ⟨rfl, hz⟩
  have q1 := (hz.block _ q0.lt).trans q0
  have b1 := b0.trans (hz.mono b0.size)
  clear q0 b0 hz hR y0 y1 y2 y3 y4 y5 y6
  have hlen : ((r7.length : Int) != (k.n : Int)) = false := by rw [HI.out.2.2.1]; simp
  obtain ⟨y0, y1, y2, y3, y4, y5, y6⟩ : z1.cell? ⟨w.heap.size, 0, none⟩ = some (.slice aL k.l.length cL) ∧ z1.cell? ⟨w.heap.size, 1, none⟩ = some (.int .i64 k.lo) ∧ z1.cell? ⟨w.heap.size, 2, none⟩ = some (.int .i64 k.un) ∧ z1.cell? ⟨w.heap.size, 3, none⟩ = some (.slice aS k.zs.length cS) ∧ z1.cell? ⟨w.heap.size, 4, none⟩ = some (.slice aI init.length cI) ∧ z1.cell? ⟨w.heap.size, 5, none⟩ = some (.int .i64 k.each) ∧ z1.cell? ⟨w.heap.size, 6, none⟩ = some (.slice aR r7.length cR) := ⟨Bk.cell q1 0, Bk.cell q1 1, Bk.cell q1 2, Bk.cell q1 3, Bk.cell q1 4, Bk.cell q1 5, Bk.cell q1 6⟩
  have hM := mNew (hgS.below b1) (hgI.below b1) hk.zs HI.out.1.symm (by rw [HI.out.1]; exact hk.few) HI.out.2.1 cS cI
  go_wp2_with fail
  refine hM.mono ?_
  rintro e z2 ⟨p, q, g, s, rfl, hMm, hbnd, hgr⟩
  have hz := below_of_grown hgr
  have q2 := (hz.block _ (Bk.lt q1)).trans q1
  have b2 := b1.trans (hz.mono b1.size)
  clear hM hgr y0 y1 y2 y3 y4 y5 y6 hz q1 hlen
  have hbw := b1.size
  obtain ⟨y0, y1, y2, y3, y4, y5, y6⟩ : z2.cell? ⟨w.heap.size, 0, none⟩ = some (.slice aL k.l.length cL) ∧ z2.cell? ⟨w.heap.size, 1, none⟩ = some (.int .i64 k.lo) ∧ z2.cell? ⟨w.heap.size, 2, none⟩ = some (.int .i64 k.un) ∧ z2.cell? ⟨w.heap.size, 3, none⟩ = some (.slice aS k.zs.length cS) ∧ z2.cell? ⟨w.heap.size, 4, none⟩ = some (.slice aI init.length cI) ∧ z2.cell? ⟨w.heap.size, 5, none⟩ = some (.int .i64 k.each) ∧ z2.cell? ⟨w.heap.size, 6, none⟩ = some (.slice aR r7.length cR) := ⟨Bk.cell q2 0, Bk.cell q2 1, Bk.cell q2 2, Bk.cell q2 3, Bk.cell q2 4, Bk.cell q2 5, Bk.cell q2 6⟩
  have hP := plNew k.n k.each hn1 hn64 hk.each z2
  go_wp2_with fail
  refine hP.mono ?_
  rintro e z3 ⟨pp, M, rfl, hPl, hgr, hMn, hpn, hgn⟩
  have hz := below_of_grown hgr
  have q3 := (hz.block _ (Bk.lt q2)).trans q2
  have b3 := b2.trans (hz.mono b2.size)
  replace hMm := hMm.grown hgr
  clear hP hgr y0 y1 y2 y3 y4 y5 y6 hz q2
  have hbw2 := b2.size
  have hNW : Hid ((w.heap.size ≤ p ∧ w.heap.size ≤ q ∧ w.heap.size ≤ g ∧ w.heap.size ≤ s) ∧ w.heap.size ≤ pp ∧ w.heap.size ≤ M.g ∧ ∀ i, M.Has k.n i → w.heap.size ≤ i) := Lib.hid ⟨by omega, by omega, by omega, fun i hi => Nat.le_trans hbw2 (hMn i hi)⟩
  clear hbnd hMn hpn hgn hbw hbw2 b1 b2
  have hPA : PoolAt z3 pp k.n k.each M (newN k.n k.each) := ⟨_, _, _, hPl, same_new k.n k.each hn64 hk.each⟩
  clear hPl
  have HCP := Lib.hid (fun W (hW : Below w.heap.size w W) => cCopy ⟨k.l, k.lo, k.un⟩ _ W (hpv.below hW) (by show k.l.length ≤ 1000; omega))
  go_upto_region 9 with fail
  refine wp_region_flow [] (fun _ W => Bk W w.heap.size 28 #[.slice aL k.l.length cL, .int .i64 k.lo, .int .i64 k.un, .slice aS k.zs.length cS, .slice aI init.length cI, .int .i64 k.each, .slice aR r7.length cR] ∧ Below w.heap.size w W ∧ Below z3.heap.size z3 W) (fun _ _ _ => False) (fun vs => { tmps := #[.agg #[.slice aL k.l.length cL, .int .i64 k.lo, .int .i64 k.un, .slice aS k.zs.length cS, .slice aI init.length cI, .int .i64 (k.each : Int), .slice aR r7.length cR], .int .i64 (k.n : Int), .pointer (some ⟨w.heap.size, 0, none⟩), undef, .pointer none, .int .i64 0, .pointer (some ⟨p, 0, none⟩), .int .i64 0, .pointer (some ⟨pp, 0, none⟩), vs 9, undef, undef, .pointer (some ⟨w.heap.size, 0, none⟩), .agg #[.slice aL k.l.length cL, .int .i64 k.lo, .int .i64 k.un], .bool true, .bool false, .bool false, .pointer (some ⟨w.heap.size, 6, none⟩), .slice aR r7.length cR, .int .i64 (r7.length : Int), .int .i64 (k.n : Int), .bool false, .bool false, .tuple #[.pointer (some ⟨p, 0, none⟩), .int .i64 0], .pointer (some ⟨w.heap.size, 3, none⟩), .slice aS k.zs.length cS, .pointer (some ⟨w.heap.size, 4, none⟩), .slice aI init.length cI, .tuple #[.pointer (some ⟨p, 0, none⟩), .int .i64 0], .pointer (some ⟨p, 0, none⟩), .int .i64 0, .int .i64 0, .bool false, .tuple #[.pointer (some ⟨pp, 0, none⟩), .int .i64 0], .int .i64 (k.n : Int), .pointer (some ⟨w.heap.size, 5, none⟩), .int .i64 (k.each : Int), .tuple #[.pointer (some ⟨pp, 0, none⟩), .int .i64 0], .pointer (some ⟨pp, 0, none⟩), .int .i64 0, .int .i64 0, .bool false, vs 0, vs 1, vs 2, vs 3, vs 4, vs 5, vs 6, vs 7, vs 8, undef, undef, undef, undef, undef, undef, undef, undef, undef, undef, undef, undef, undef, undef, undef, undef, undef, undef, undef], defers := [] }) (mixT [(2, (NwA w k)), (6, (NwB w k)), (7, (NwC w k p pp)), (8, (NwD w k p pp)), (9, (NwD w k p pp))] [.pointer (some ⟨w.heap.size, 0, none⟩), .agg #[.slice aL k.l.length cL, .int .i64 k.lo, .int .i64 k.un], undef, .pointer (some ⟨p, 0, none⟩), .pointer (some ⟨pp, 0, none⟩), .int .i64 (k.n : Int), undef, undef, undef, undef]) ?ghm ?ghr ?ghc ?ghnd ?ghlit ?gh0 ?ghW ?ghF ?ghS ?gops ?gdone
  case ghm => kernel_rfl
  case ghr => kernel_rfl
  case ghc => kernel_rfl
  case ghnd => decide
  case ghlit => intro vs; rfl
  case gh0 => exact ⟨q3, b3, Below.refl _ _⟩
  case ghW => exact fun kk W W2 h hb => ⟨(hb.block _ (Bk.lt h.1)).trans h.1, h.2.1.trans (hb.mono h.2.1.size), h.2.2.trans (hb.mono h.2.2.size)⟩
  case ghF => exact mixT_stable (by
    intro p0 hp
    simp only [List.mem_cons, List.not_mem_nil, or_false] at hp
    rcases hp with rfl | rfl | rfl | rfl | rfl
    · exact fun v W W2 h hb => NwA.below h hb
    · exact fun v W W2 h hb => NwB.below h hb
    · exact fun v W W2 h hb => NwC.below h hb
    · exact fun v W W2 h hb => NwD.below h hb
    · exact fun v W W2 h hb => NwD.below h hb)
  case ghS => exact fun kk W W2 _ hs i v h => hs.elim
  case gops =>
    refine ⟨?_, ?_, ?_, ?_, ?_, ?_, ?_, ?_, ?_, ?_, trivial⟩
    · intro vs W kk h1 h2 hW hd
      obtain rfl : kk = 0 := Nat.le_zero.1 h2
      refine leaves_free rfl ?_
      clear hd
      go_simp
      exact ⟨rfl, Below.refl _ _⟩
    · intro vs W kk h1 h2 hW hd
      obtain rfl : kk = 0 := Nat.le_zero.1 h2
      refine leaves_free rfl ?_
      have e0 : vs 0 = .pointer (some ⟨w.heap.size, 0, none⟩) := hd 0 (by decide)
      have hq : Bk W w.heap.size 28 #[.slice aL k.l.length cL, .int .i64 k.lo, .int .i64 k.un, .slice aS k.zs.length cS, .slice aI init.length cI, .int .i64 k.each, .slice aR r7.length cR] := hW.1; obtain ⟨y0, y1, y2⟩ : W.cell? ⟨w.heap.size, 0, none⟩ = some (.slice aL k.l.length cL) ∧ W.cell? ⟨w.heap.size, 1, none⟩ = some (.int .i64 k.lo) ∧ W.cell? ⟨w.heap.size, 2, none⟩ = some (.int .i64 k.un) := ⟨hq.cell 0, hq.cell 1, hq.cell 2⟩; clear hq
      clear hd
      go_simp
      exact ⟨rfl, Below.refl _ _⟩
    · intro vs W kk h1 h2 hW hd
      obtain rfl : kk = 0 := Nat.le_zero.1 h2
      refine leaves_free rfl ?_
      have e1 : vs 1 = .agg #[.slice aL k.l.length cL, .int .i64 k.lo, .int .i64 k.un] := hd 1 (by decide)
      have HS := Lib.hid (HCP.out W hW.2.1)
      have hsz := hW.2.1.size
      clear hd
      go_simp
      refine HS.out.mono ?_
      rintro e zz ⟨v9, he, ⟨sl, e9, ho⟩, hb⟩
      exact ⟨v9, he, ⟨sl, e9, World.ownsRow.mono (base' := w.heap.size) ho hsz⟩, hb⟩
    · intro vs W kk h1 h2 hW hd
      obtain rfl : kk = 0 := Nat.le_zero.1 h2
      refine leaves_free rfl ?_
      clear hd
      go_simp
      exact ⟨rfl, Below.refl _ _⟩
    · intro vs W kk h1 h2 hW hd
      obtain rfl : kk = 0 := Nat.le_zero.1 h2
      refine leaves_free rfl ?_
      clear hd
      go_simp
      exact ⟨rfl, Below.refl _ _⟩
    · intro vs W kk h1 h2 hW hd
      obtain rfl : kk = 0 := Nat.le_zero.1 h2
      refine leaves_free rfl ?_
      clear hd
      go_simp
      exact ⟨rfl, Below.refl _ _⟩
    · intro vs W kk h1 h2 hW hd
      obtain rfl : kk = 0 := Nat.le_zero.1 h2
      refine leaves_free rfl ?_
      have e5 : vs 5 = .int .i64 (k.n : Int) := hd 5 (by decide)
      have hmk := HMK.out W
      have hsz := hW.2.1.size
      clear hd
      go_simp
      exact ⟨⟨W.heap.size, rfl, hsz, by rw [← made_cores]; exact Bk.made _ _ _⟩, (Below.refl _ _).alloc (Nat.le_refl _) _⟩
    · intro vs W kk h1 h2 hW hd
      obtain rfl : kk = 0 := Nat.le_zero.1 h2
      refine leaves_free rfl ?_
      have e3 : vs 3 = .pointer (some ⟨p, 0, none⟩) := hd 3 (by decide)
      have e4 : vs 4 = .pointer (some ⟨pp, 0, none⟩) := hd 4 (by decide)
      obtain ⟨sl, e2, ho⟩ : NwA w k (vs 2) W := hd 2 (by decide)
      obtain ⟨kb, e6, hkb, hk6⟩ : NwB w k (vs 6) W := hd 6 (by decide)
      clear hd
      go_simp
      exact ⟨⟨sl, kb, rfl, ho, hkb, hk6⟩, Below.refl _ _⟩
    · intro vs W kk h1 h2 hW hd
      obtain rfl : kk = 0 := Nat.le_zero.1 h2
      refine leaves_free rfl ?_
      obtain ⟨sl, kb, e7, ho, hkb, hk6⟩ : NwC w k p pp (vs 7) W := hd 7 (by decide)
      have hsz := hW.2.1.size
      clear hd
      go_simp
      exact ⟨⟨W.heap.size, sl, kb, rfl, hsz, Bk.made _ _ _, own_within ho ((Within.refl _ (fun _ => False)).alloc _) (by simp), hkb, Bk.alloc hk6 _⟩, (Below.refl _ _).alloc (Nat.le_refl _) _⟩
    · intro vs W kk h1 h2 hW hd
      obtain rfl : kk = 0 := Nat.le_zero.1 h2
      refine leaves_free rfl ?_
      have h8 : NwD w k p pp (vs 8) W := hd 8 (by decide)
      clear hd
      go_simp
      exact ⟨h8, Below.refl _ _⟩
  case gdone =>
    intro vs W hW hf
    have f0 : vs 0 = .pointer (some ⟨w.heap.size, 0, none⟩) := hf 0 (by decide)
    have f1 : vs 1 = .agg #[.slice aL k.l.length cL, .int .i64 k.lo, .int .i64 k.un] := hf 1 (by decide)
    have f3 : vs 3 = .pointer (some ⟨p, 0, none⟩) := hf 3 (by decide)
    have f4 : vs 4 = .pointer (some ⟨pp, 0, none⟩) := hf 4 (by decide)
    have f5 : vs 5 = .int .i64 (k.n : Int) := hf 5 (by decide)
    simp only [f0, f1, f3, f4, f5]
    clear f0 f1 f3 f4 f5
    have h9 : NwD w k p pp (vs 9) W := hf 9 (by decide)
    obtain ⟨x, sl, kb, e9, hx, hBx, ho, hkb, hBk⟩ := h9
    simp only [e9]
    clear hf
    generalize vs 2 = w2 at *
    generalize vs 6 = w6 at *
    generalize vs 7 = w7 at *
    generalize vs 8 = w8 at *
    obtain ⟨hqW, hbW, hzW⟩ := hW
    obtain ⟨fr0, os0, cn0, hPl, hSm⟩ := hPA
    have hX : Ex W ⟨x, sl, kb, p, q, g, s, pp, M⟩ k { newM k init r7 with cs := csj r7 0 } := by
      refine ⟨hBx, World.ownsRow.mono (base' := 0) ho (Nat.zero_le _), ?_, hMm.grown (grown_of_below hzW), ⟨fr0, os0, cn0, hPl.grown (grown_of_below hzW), hSm⟩, hk, ⟨HI.out.2.1, HI.out.1, ?_⟩⟩
      · rw [csj_0]; exact hBk
      · intro t ht
        rw [csj_0]
        exact ⟨rfl, U32s.zeros 8⟩
    have hOwn : Hid (∀ i, XP.Own ⟨x, sl, kb, p, q, g, s, pp, M⟩ k.n i → w.heap.size ≤ i) := Lib.hid fun i hi => by
      obtain ⟨⟨n1, n2, n3, n4⟩, n5, n6, n7⟩ := hNW.out
      rcases hi with e | e | e | e | e | e | e | e | e | e
      · simp only at e; omega
      · exact (World.ownsRow.lt ho i e).1
      · simp only at e; omega
      · simp only at e; omega
      · simp only at e; omega
      · simp only at e; omega
      · simp only at e; omega
      · simp only at e; omega
      · simp only at e; omega
      · exact n7 i e
    have hqW6 : Hid (W.cell? ⟨w.heap.size, 6, none⟩ = some (.slice aR r7.length cR)) := Lib.hid (Bk.cell hqW 6)
    clear hBx ho hBk hMm hPl hSm hqW hzW q3 b3 hNW HCP HMK hx hkb
    have c5x : W.cell? ⟨w.heap.size, 6, none⟩ = some (.slice aR r7.length cR) := hqW6.out
    go_wp2
    go_loopw [54] (fun i wr => ∃ j : Nat, j ≤ k.n ∧ i = .int .i64 j ∧ Ex wr ⟨x, sl, kb, p, q, g, s, pp, M⟩ k { newM k init r7 with cs := csj r7 j } ∧ Below w.heap.size w wr) (fun i _ => k.n - (intOf i).toNat)
    case atStart => exact ⟨0, Nat.zero_le _, rfl, hX, hbW⟩
    case round =>
      clear hX hbW c5x
      obtain ⟨j, hj, rfl, hX, hbr⟩ := hrel
      by_cases hlt : j < k.n
      · have hji : (j : Int) < k.n := by omega
        have hrl : (j : Int) < r7.length := by rw [HI.out.2.2.1]; omega
        have hrl2 : j < r7.length := by rw [HI.out.2.2.1]; omega
        obtain ⟨b', off, rfl, hcell⟩ := (hgR.below hbr).here hrl2
        have hc5 : wr.cell? ⟨x, 5, none⟩ = some (.slice (some ⟨kb, 0, none⟩) k.n k.n) := hX.c5
        have hc7 : wr.cell? ⟨kb, j * 9 + 7, none⟩ = some (.int .u32 0) := (hX.core_at hlt (j := 7) (by omega)).trans (by unfold csj; simp [corC])
        have hz7 := hX.free
        have hst := hX.setReg hlt (j := 7) (by omega) (HI.out.2.2.2.at_ j)
        have HST : Hid (Ex (wr.setCell ⟨kb, j * 9 + 7, none⟩ (.int .u32 (nth r7 j))) ⟨x, sl, kb, p, q, g, s, pp, M⟩ k { newM k init r7 with cs := csj r7 (j + 1) }) := Lib.hid (by rw [← csj_next]; exact hst)
        have HBR := Lib.hid (hbr.setCell (p := ⟨kb, j * 9 + 7, none⟩) (hOwn.out kb (.inr (.inr (.inl rfl)))) (.int .u32 (nth r7 j)))
        clear hst hX hbr
        go_wp2
        go_roundw
        case rel => exact ⟨j + 1, by omega, by go_num, HST.out, HBR.out⟩
        case measure => simp [intOf]; omega
      · obtain rfl : j = k.n := by omega
        have hrl : ¬ (k.n : Int) < r7.length := by rw [HI.out.2.2.1]; omega
        rw [csj_all (init := init) HI.out.2.2.1] at hX
        go_wp2
        go_ret2
        exact ⟨_, rfl, hX, hbr, hOwn.out⟩
end
end Go.Proofs.YtpinpipjlongaaaGreat

/- The document's Step, whatever stands there. -/
namespace Go.Proofs.YtpinpipjlongaaaGreat
set_option maxRecDepth 100000
open Go.ChangeShapes Go.WideShapes Go.ChangeAt Go.RowKit

section
variable {w : World} {Y : YP} {k : Lk} {m : Mc}
theorem yStep (h : Ey w Y k m) (t : Nat) (ht : t < k.n) (late : Bool) :
    Calls Tryz.prog 13 #[.pointer (some ⟨Y.y, 0, none⟩), .int .i64 t, .int .i64 (one01 late)] w (CameY w Y k (stepM k m t late)) := by
  cases hm : memI k (m.cs t).pc with
  | none =>
    rw [step_none hm]
    exact yTrap h t ht _ hm
  | some i =>
    have hop := (h.lk.okM hm).op
    by_cases h22 : i.op = 22
    · exact yTake h t ht late hm h22
    by_cases h23 : i.op = 23
    · exact yBack h t ht late hm h23
    cases hf : findM k.zs i.a (nth (m.cs t).xs i.s.toNat) with
    | none => exact yNoCell h t ht late hm ⟨h22, h23⟩ hf
    | some A =>
      by_cases h16 : i.op = 16
      · exact yALoad h t ht late hm h16 hf
      by_cases h17 : i.op = 17
      · exact yAStore h t ht late hm h17 hf
      by_cases h18 : i.op = 18
      · exact yASwap h t ht late hm h18 hf
      by_cases h19 : i.op = 19
      · exact yACas h t ht late hm h19 hf
      by_cases h20 : i.op = 20
      · exact yAFadd h t ht late hm h20 hf
      have h21 : i.op = 21 := by omega
      cases hh : (decide (nth m.ws A = nth (m.cs t).xs i.t.toNat) != decide (i.k = 1)) with
      | true => exact yAAwaitHold h t ht late hm h21 hf hh
      | false =>
        cases late with
        | false => exact yAAwaitStay h t ht hm h21 hf hh
        | true =>
          by_cases hl : i.pl < 0
          · exact yAAwaitNever h t ht hm h21 hf hh hl
          · exact yAAwaitGoto h t ht hm h21 hf hh hl
end
end Go.Proofs.YtpinpipjlongaaaGreat

/- The law's own functions of layer 10: small, Ref, Right of the document's spec, awake. -/
namespace Go.Proofs.YtpinpipjlongaaaGreat
set_option maxRecDepth 100000
open Go.ChangeShapes Go.WideShapes Go.ChangeAt Go.RowKit
set_option linter.unusedVariables false

theorem cells_cases10 {w w1 : World} {zs : List Int} {e : Ending} (h : CellsPost w zs e w1) : w.grownBy w1 none ∧ ∃ va n vc fl, e = .returned (.tuple #[.slice va n vc, .bool fl]) ∧ n ≤ 32768 ∧
    ((RightZ zs ∧ fl = decide ((tot zs : Int) ≤ 8192) ∧ n = tot zs) ∨ (fl = false)) := by
  obtain ⟨hg, ⟨hz, v, rfl, hc⟩ | ⟨hz, rfl⟩⟩ := h
  · refine ⟨hg, ?_⟩
    obtain ⟨va, vc, rfl, _⟩ := hc.is
    refine ⟨va, _, vc, _, rfl, ?_, .inl ⟨hz, rfl, cels_len _⟩⟩
    rw [cels_len]; exact tot_le hz
  · exact ⟨hg, none, 0, 0, false, rfl, by omega, .inr rfl⟩

set_option maxHeartbeats 1000000 in
theorem lSmall {w : World} {v : Value} {c : Prg} {zs init r7 : List Int} {each : Int} (hv : Sv w v c zs init r7 each) (hc : c.l.length ≤ maxLen) :
    Calls Tryz.prog 4 #[v] w fun e w' => e = .returned (.bool (decide (c.l.length ≤ 80) && (decide (zs.length ≤ 12) && (decide (init.length ≤ 300) && decide (r7.length ≤ 80))))) ∧ Below w.heap.size w w' := by
  obtain ⟨aL, cL, aS, cS, aI, cI, aR, cR, rfl, hpv, hgS, hgI, hgR, hm1, hm2, hm3⟩ := hv
  clear hpv hgS hgI hgR
  unfold maxLen at hc hm1 hm2 hm3
  have b0 : Below w.heap.size w (w.alloc (.cells #[.slice aL c.l.length cL, .int .i64 c.lo, .int .i64 c.un, .slice aS zs.length cS, .slice aI init.length cI, .int .i64 each, .slice aR r7.length cR] 28)) := (Below.refl _ _).alloc (Nat.le_refl _) _
  generalize c.l.length = n1 at *
  generalize zs.length = n2 at *
  generalize init.length = n3 at *
  generalize r7.length = n4 at *
  by_cases h1 : n1 ≤ 80
  · have i1 : (n1 : Int) ≤ 80 := by omega
    by_cases h2 : n2 ≤ 12
    · have i2 : (n2 : Int) ≤ 12 := by omega
      by_cases h3 : n3 ≤ 300
      · have i3 : (n3 : Int) ≤ 300 := by omega
        by_cases h4 : n4 ≤ 80
        · have i4 : (n4 : Int) ≤ 80 := by omega
          have HE : Hid ((decide (n1 ≤ 80) && (decide (n2 ≤ 12) && (decide (n3 ≤ 300) && decide (n4 ≤ 80)))) = true) := Lib.hid (by simp [h1, h2, h3, h4])
          go_enter Tryz.func4, Tryz.ntmps4
          go_wp2
          go_ret
          exact ⟨by first | rfl | (rw [HE.out]; rfl), b0⟩
        · have i4 : ¬ (n4 : Int) ≤ 80 := by omega
          have HE : Hid ((decide (n1 ≤ 80) && (decide (n2 ≤ 12) && (decide (n3 ≤ 300) && decide (n4 ≤ 80)))) = false) := Lib.hid (by simp [h4])
          go_enter Tryz.func4, Tryz.ntmps4
          go_wp2
          go_ret
          exact ⟨by first | rfl | (rw [HE.out]; rfl), b0⟩
      · have i3 : ¬ (n3 : Int) ≤ 300 := by omega
        have HE : Hid ((decide (n1 ≤ 80) && (decide (n2 ≤ 12) && (decide (n3 ≤ 300) && decide (n4 ≤ 80)))) = false) := Lib.hid (by simp [h3])
        go_enter Tryz.func4, Tryz.ntmps4
        go_wp2
        go_ret
        exact ⟨by first | rfl | (rw [HE.out]; rfl), b0⟩
    · have i2 : ¬ (n2 : Int) ≤ 12 := by omega
      have HE : Hid ((decide (n1 ≤ 80) && (decide (n2 ≤ 12) && (decide (n3 ≤ 300) && decide (n4 ≤ 80)))) = false) := Lib.hid (by simp [h2])
      go_enter Tryz.func4, Tryz.ntmps4
      go_wp2
      go_ret
      exact ⟨by first | rfl | (rw [HE.out]; rfl), b0⟩
  · have i1 : ¬ (n1 : Int) ≤ 80 := by omega
    have HE : Hid ((decide (n1 ≤ 80) && (decide (n2 ≤ 12) && (decide (n3 ≤ 300) && decide (n4 ≤ 80)))) = false) := Lib.hid (by simp [h1])
    go_enter Tryz.func4, Tryz.ntmps4
    go_wp2
    go_ret
    exact ⟨by first | rfl | (rw [HE.out]; rfl), b0⟩

/-- A row isn't where a block of another type has changed. -/
theorem own_safe {W W' : World} {base n sz b : Nat} {t u : TypeId} {v : Value} {xs : List Value} {cs : Array Value} (h : W.ownsRow base t sz v n xs) (hw : Within W W' (fun i => i = b)) (hb : Bk W b u cs) (hne : t ≠ u) : W'.ownsRow base t sz v n xs :=
  own_within h hw fun g e e2 => by
    obtain ⟨cs', hcs⟩ := own_bk h e
    exact Bk.unlike hcs hb hne e2
/-- Seven cells of a block are others. -/
def put7 (y : World) (g : Nat) (a b c d e f h : Value) : World := ((((((y.setCell ⟨g, 0, none⟩ a).setCell ⟨g, 1, none⟩ b).setCell ⟨g, 2, none⟩ c).setCell ⟨g, 3, none⟩ d).setCell ⟨g, 4, none⟩ e).setCell ⟨g, 5, none⟩ f).setCell ⟨g, 6, none⟩ h
theorem put7_bk {y : World} {g : Nat} {t : TypeId} {x0 x1 x2 x3 x4 x5 x6 : Value} (hb : Bk y g t #[x0, x1, x2, x3, x4, x5, x6]) (a b c d e f h : Value) : Bk (put7 y g a b c d e f h) g t #[a, b, c, d, e, f, h] := by
  have h8 := ((((((hb.put 0 a).put 1 b).put 2 c).put 3 d).put 4 e).put 5 f).put 6 h
  unfold put7
  simpa only [List.setIfInBounds_toArray, List.set_cons_zero, List.set_cons_succ] using h8
theorem put7_within {y : World} {g : Nat} (a b c d e f h : Value) : Within y (put7 y g a b c d e f h) (fun i => i = g) := by
  unfold put7
  exact (((((((Within.refl y (fun i => i = g)).put g 0 a (.inl rfl)).put g 1 b (.inl rfl)).put g 2 c (.inl rfl)).put g 3 d (.inl rfl)).put g 4 e (.inl rfl)).put g 5 f (.inl rfl)).put g 6 h (.inl rfl)
theorem put7_below {B : Nat} {w y : World} {g : Nat} (hb : Below B w y) (hg : B ≤ g) (a b c d e f h : Value) : Below B w (put7 y g a b c d e f h) :=
  ((((((hb.setCell hg _).setCell hg _).setCell hg _).setCell hg _).setCell hg _).setCell hg _).setCell hg _

/-- The value v is the document's spec; its program lies in a row of its own, at base or beyond. -/
def Rv (base : Nat) (w : World) (v : Value) (c : Prg) (zs init r7 : List Int) (each : Int) : Prop :=
  ∃ sl aS cS aI cI aR cR, v = .agg #[sl, .int .i64 c.lo, .int .i64 c.un, .slice aS zs.length cS, .slice aI init.length cI, .int .i64 each, .slice aR r7.length cR] ∧
    w.ownsRow base 97 8 sl c.l.length (progC c.l) ∧ Given .i64 w aS zs ∧ Given .u32 w aI init ∧ Given .u32 w aR r7 ∧ zs.length ≤ maxLen ∧ init.length ≤ maxLen ∧ r7.length ≤ maxLen
theorem Rv.below {base : Nat} {w w' : World} {v : Value} {c : Prg} {zs init r7 : List Int} {each : Int} (h : Rv base w v c zs init r7 each) (hb : Below w.heap.size w w') : Rv base w' v c zs init r7 each := by
  obtain ⟨sl, aS, cS, aI, cI, aR, cR, e, h1, h2, h3, h4, h5⟩ := h
  exact ⟨sl, aS, cS, aI, cI, aR, cR, e, own_below h1 hb, h2.below hb, h3.below hb, h4.below hb, h5⟩

set_option maxHeartbeats 1000000 in
theorem lRef10 {w : World} {v : Value} {c : Prg} {zs init r7 : List Int} {each : Int} (hv : Sv w v c zs init r7 each) (hc : c.l.length ≤ 1000) :
    Calls Tryz.prog 6 #[v] w fun e w' => ∃ v', e = .returned v' ∧ Rv w.heap.size w' v' c zs init r7 each ∧ Below w.heap.size w w' := by
  obtain ⟨aL, cL, aS, cS, aI, cI, aR, cR, rfl, hpv, hgS, hgI, hgR, hm1, hm2, hm3⟩ := hv
  have q0 := (Bk.made w 28 #[.slice aL c.l.length cL, .int .i64 c.lo, .int .i64 c.un, .slice aS zs.length cS, .slice aI init.length cI, .int .i64 each, .slice aR r7.length cR]).alloc (.cells #[.slice none 0 0, .int .i64 0, .int .i64 0, .slice none 0 0, .slice none 0 0, .int .i64 0, .slice none 0 0] 36)
  have q1 := Bk.made (w.alloc (.cells #[.slice aL c.l.length cL, .int .i64 c.lo, .int .i64 c.un, .slice aS zs.length cS, .slice aI init.length cI, .int .i64 each, .slice aR r7.length cR] 28)) 36 #[.slice none 0 0, .int .i64 0, .int .i64 0, .slice none 0 0, .slice none 0 0, .int .i64 0, .slice none 0 0]
  rw [World.size_alloc] at q1
  have b0 : Below w.heap.size w ((w.alloc (.cells #[.slice aL c.l.length cL, .int .i64 c.lo, .int .i64 c.un, .slice aS zs.length cS, .slice aI init.length cI, .int .i64 each, .slice aR r7.length cR] 28)).alloc (.cells #[.slice none 0 0, .int .i64 0, .int .i64 0, .slice none 0 0, .slice none 0 0, .int .i64 0, .slice none 0 0] 36)) := ((Below.refl _ _).alloc (Nat.le_refl _) _).alloc (by simp) _
  go_enter Tryz.func6, Tryz.ntmps6
  go_upto_region 1 with fail
  generalize (w.alloc (.cells #[.slice aL c.l.length cL, .int .i64 c.lo, .int .i64 c.un, .slice aS zs.length cS, .slice aI init.length cI, .int .i64 each, .slice aR r7.length cR] 28)).alloc (.cells #[.slice none 0 0, .int .i64 0, .int .i64 0, .slice none 0 0, .slice none 0 0, .int .i64 0, .slice none 0 0] 36) = y at *
  have HRF := Lib.hid (fun W (hW : Below w.heap.size w W) => lRefO c _ W (hpv.below hW) hc)
  have kx : ∀ (W : World) (u : Value) (i j : Nat), (W.setCell ⟨w.heap.size + 1, i, none⟩ u).cell? ⟨w.heap.size, j, none⟩ = W.cell? ⟨w.heap.size, j, none⟩ := fun W u i j => cell_off (by omega)
  have HQ : Hid (∀ W, Below y.heap.size y W → Bk W w.heap.size 28 _ ∧ Bk W (w.heap.size + 1) 36 _ ∧ Below w.heap.size w W) := Lib.hid fun W hW => ⟨(hW.block _ q0.lt).trans q0, (hW.block _ q1.lt).trans q1, b0.trans (hW.mono b0.size)⟩
  obtain ⟨f0, f1, f2, f3, f4, f5, f6⟩ : y.cell? ⟨w.heap.size, 0, none⟩ = some (.slice aL c.l.length cL) ∧ y.cell? ⟨w.heap.size, 1, none⟩ = some (.int .i64 c.lo) ∧ y.cell? ⟨w.heap.size, 2, none⟩ = some (.int .i64 c.un) ∧ y.cell? ⟨w.heap.size, 3, none⟩ = some (.slice aS zs.length cS) ∧ y.cell? ⟨w.heap.size, 4, none⟩ = some (.slice aI init.length cI) ∧ y.cell? ⟨w.heap.size, 5, none⟩ = some (.int .i64 each) ∧ y.cell? ⟨w.heap.size, 6, none⟩ = some (.slice aR r7.length cR) := ⟨q0.cell 0, q0.cell 1, q0.cell 2, q0.cell 3, q0.cell 4, q0.cell 5, q0.cell 6⟩
  refine wp_region_flow [12] (fun j W => match j with | 0 => Below y.heap.size y W | _ => ∃ sl, W.ownsRow w.heap.size 97 8 sl c.l.length (progC c.l) ∧ Bk W (w.heap.size + 1) 36 #[sl, .int .i64 c.lo, .int .i64 c.un, .slice aS zs.length cS, .slice aI init.length cI, .int .i64 each, .slice aR r7.length cR] ∧ Below w.heap.size w W) (fun _ W W2 => Within W W2 (fun i => i = w.heap.size + 1) ∧ Bk W (w.heap.size + 1) 36 #[.slice none 0 0, .int .i64 0, .int .i64 0, .slice none 0 0, .slice none 0 0, .int .i64 0, .slice none 0 0]) (fun vs => { tmps := #[.agg #[.slice aL c.l.length cL, .int .i64 c.lo, .int .i64 c.un, .slice aS zs.length cS, .slice aI init.length cI, .int .i64 each, .slice aR r7.length cR], .pointer (some ⟨w.heap.size, 0, none⟩), .pointer (some ⟨w.heap.size + 1, 0, none⟩), vs 0, vs 1, vs 2, vs 3, vs 4, vs 5, vs 6, vs 7, vs 8, vs 9, vs 10, vs 11], defers := [] }) (mixT [(2, (fun v W => ∃ sl, v = .agg #[sl, .int .i64 c.lo, .int .i64 c.un] ∧ W.ownsRow w.heap.size 97 8 sl c.l.length (progC c.l))), (11, (fun v W => ∃ sl, v = .agg #[sl, .int .i64 c.lo, .int .i64 c.un, .slice aS zs.length cS, .slice aI init.length cI, .int .i64 each, .slice aR r7.length cR] ∧ W.ownsRow w.heap.size 97 8 sl c.l.length (progC c.l)))] [.pointer (some ⟨w.heap.size, 0, none⟩), .agg #[.slice aL c.l.length cL, .int .i64 c.lo, .int .i64 c.un], undef, .pointer (some ⟨w.heap.size, 3, none⟩), .slice aS zs.length cS, .pointer (some ⟨w.heap.size, 4, none⟩), .slice aI init.length cI, .pointer (some ⟨w.heap.size, 5, none⟩), .int .i64 each, .pointer (some ⟨w.heap.size, 6, none⟩), .slice aR r7.length cR, undef, undef]) ?ghm ?ghr ?ghc ?ghnd ?ghlit ?gh0 ?ghW ?ghF ?ghS ?gops ?gdone
  case ghm => kernel_rfl
  case ghr => kernel_rfl
  case ghc => kernel_rfl
  case ghnd => decide
  case ghlit => intro vs; rfl
  case gh0 => exact Below.refl _ _
  case ghW => exact fun kk W W2 h hb => match kk, h with
    | 0, h => h.trans (hb.mono h.size)
    | _ + 1, ⟨sl, h1, h2, h3⟩ => ⟨sl, own_below h1 hb, (hb.block _ h2.lt).trans h2, h3.trans (hb.mono h3.size)⟩
  case ghF => exact mixT_stable (by
    intro p0 hp
    simp only [List.mem_cons, List.not_mem_nil, or_false] at hp
    rcases hp with rfl | rfl
    · rintro v W W2 ⟨sl, e, h⟩ hb; exact ⟨sl, e, own_below h hb⟩
    · rintro v W W2 ⟨sl, e, h⟩ hb; exact ⟨sl, e, own_below h hb⟩)
  case ghS => exact fun kk W W2 _ hs i v h => mixT_keep (R := fun W W2 => Within W W2 (fun i => i = w.heap.size + 1) ∧ Bk W (w.heap.size + 1) 36 #[.slice none 0 0, .int .i64 0, .int .i64 0, .slice none 0 0, .slice none 0 0, .int .i64 0, .slice none 0 0]) (ps := [(2, (fun v W => ∃ sl, v = .agg #[sl, .int .i64 c.lo, .int .i64 c.un] ∧ W.ownsRow w.heap.size 97 8 sl c.l.length (progC c.l))), (11, (fun v W => ∃ sl, v = .agg #[sl, .int .i64 c.lo, .int .i64 c.un, .slice aS zs.length cS, .slice aI init.length cI, .int .i64 each, .slice aR r7.length cR] ∧ W.ownsRow w.heap.size 97 8 sl c.l.length (progC c.l)))]) (l := [.pointer (some ⟨w.heap.size, 0, none⟩), .agg #[.slice aL c.l.length cL, .int .i64 c.lo, .int .i64 c.un], undef, .pointer (some ⟨w.heap.size, 3, none⟩), .slice aS zs.length cS, .pointer (some ⟨w.heap.size, 4, none⟩), .slice aI init.length cI, .pointer (some ⟨w.heap.size, 5, none⟩), .int .i64 each, .pointer (some ⟨w.heap.size, 6, none⟩), .slice aR r7.length cR, undef, undef]) (by
    intro p0 hp
    simp only [List.mem_cons, List.not_mem_nil, or_false] at hp
    rcases hp with rfl | rfl
    · rintro v W W2 ⟨sl, e, h⟩ hs; exact ⟨sl, e, own_safe h hs.1 hs.2 (by decide)⟩
    · rintro v W W2 ⟨sl, e, h⟩ hs; exact ⟨sl, e, own_safe h hs.1 hs.2 (by decide)⟩) i v W W2 h hs
  case gops =>
    refine ⟨?_, ?_, ?_, ?_, ?_, ?_, ?_, ?_, ?_, ?_, ?_, ?_, ?_, trivial⟩
    · intro vs W kk h1 h2 hW hd
      obtain rfl : kk = 0 := Nat.le_zero.1 h2
      refine leaves_free rfl ?_
      clear hd
      go_simp
      exact ⟨rfl, Below.refl _ _⟩
    · intro vs W kk h1 h2 hW hd
      obtain rfl : kk = 0 := Nat.le_zero.1 h2
      refine leaves_free rfl ?_
      have e0 : vs 0 = .pointer (some ⟨w.heap.size, 0, none⟩) := hd 0 (by decide)
      have hq := (HQ.out W hW).1; obtain ⟨f0, f1, f2, f3, f4, f5, f6⟩ : W.cell? ⟨w.heap.size, 0, none⟩ = some (.slice aL c.l.length cL) ∧ W.cell? ⟨w.heap.size, 1, none⟩ = some (.int .i64 c.lo) ∧ W.cell? ⟨w.heap.size, 2, none⟩ = some (.int .i64 c.un) ∧ W.cell? ⟨w.heap.size, 3, none⟩ = some (.slice aS zs.length cS) ∧ W.cell? ⟨w.heap.size, 4, none⟩ = some (.slice aI init.length cI) ∧ W.cell? ⟨w.heap.size, 5, none⟩ = some (.int .i64 each) ∧ W.cell? ⟨w.heap.size, 6, none⟩ = some (.slice aR r7.length cR) := ⟨hq.cell 0, hq.cell 1, hq.cell 2, hq.cell 3, hq.cell 4, hq.cell 5, hq.cell 6⟩; have hr := (HQ.out W hW).2.1; obtain ⟨z0, z1, z2, z3, z4, z5, z6⟩ : W.cell? ⟨w.heap.size + 1, 0, none⟩ = some (.slice none 0 0) ∧ W.cell? ⟨w.heap.size + 1, 1, none⟩ = some (.int .i64 0) ∧ W.cell? ⟨w.heap.size + 1, 2, none⟩ = some (.int .i64 0) ∧ W.cell? ⟨w.heap.size + 1, 3, none⟩ = some (.slice none 0 0) ∧ W.cell? ⟨w.heap.size + 1, 4, none⟩ = some (.slice none 0 0) ∧ W.cell? ⟨w.heap.size + 1, 5, none⟩ = some (.int .i64 0) ∧ W.cell? ⟨w.heap.size + 1, 6, none⟩ = some (.slice none 0 0) := ⟨hr.cell 0, hr.cell 1, hr.cell 2, hr.cell 3, hr.cell 4, hr.cell 5, hr.cell 6⟩; have zf := Bk.free hr; clear hq
      clear hd
      go_simp
      exact ⟨rfl, Below.refl _ _⟩
    · intro vs W kk h1 h2 hW hd
      obtain rfl : kk = 0 := Nat.le_zero.1 h2
      refine leaves_free rfl ?_
      have e1 : vs 1 = .agg #[.slice aL c.l.length cL, .int .i64 c.lo, .int .i64 c.un] := hd 1 (by decide)
      have HS := Lib.hid (HRF.out W (HQ.out W hW).2.2)
      have hsz := (HQ.out W hW).2.2.size
      clear hd
      go_simp
      refine HS.out.mono ?_
      rintro e zz ⟨sl, he, ho, hb⟩
      exact ⟨_, he, ⟨sl, rfl, World.ownsRow.mono (base' := w.heap.size) ho hsz⟩, hb⟩
    · intro vs W kk h1 h2 hW hd
      obtain rfl : kk = 0 := Nat.le_zero.1 h2
      refine leaves_free rfl ?_
      clear hd
      go_simp
      exact ⟨rfl, Below.refl _ _⟩
    · intro vs W kk h1 h2 hW hd
      obtain rfl : kk = 0 := Nat.le_zero.1 h2
      refine leaves_free rfl ?_
      have e3 : vs 3 = .pointer (some ⟨w.heap.size, 3, none⟩) := hd 3 (by decide)
      have hq := (HQ.out W hW).1; obtain ⟨f0, f1, f2, f3, f4, f5, f6⟩ : W.cell? ⟨w.heap.size, 0, none⟩ = some (.slice aL c.l.length cL) ∧ W.cell? ⟨w.heap.size, 1, none⟩ = some (.int .i64 c.lo) ∧ W.cell? ⟨w.heap.size, 2, none⟩ = some (.int .i64 c.un) ∧ W.cell? ⟨w.heap.size, 3, none⟩ = some (.slice aS zs.length cS) ∧ W.cell? ⟨w.heap.size, 4, none⟩ = some (.slice aI init.length cI) ∧ W.cell? ⟨w.heap.size, 5, none⟩ = some (.int .i64 each) ∧ W.cell? ⟨w.heap.size, 6, none⟩ = some (.slice aR r7.length cR) := ⟨hq.cell 0, hq.cell 1, hq.cell 2, hq.cell 3, hq.cell 4, hq.cell 5, hq.cell 6⟩; have hr := (HQ.out W hW).2.1; obtain ⟨z0, z1, z2, z3, z4, z5, z6⟩ : W.cell? ⟨w.heap.size + 1, 0, none⟩ = some (.slice none 0 0) ∧ W.cell? ⟨w.heap.size + 1, 1, none⟩ = some (.int .i64 0) ∧ W.cell? ⟨w.heap.size + 1, 2, none⟩ = some (.int .i64 0) ∧ W.cell? ⟨w.heap.size + 1, 3, none⟩ = some (.slice none 0 0) ∧ W.cell? ⟨w.heap.size + 1, 4, none⟩ = some (.slice none 0 0) ∧ W.cell? ⟨w.heap.size + 1, 5, none⟩ = some (.int .i64 0) ∧ W.cell? ⟨w.heap.size + 1, 6, none⟩ = some (.slice none 0 0) := ⟨hr.cell 0, hr.cell 1, hr.cell 2, hr.cell 3, hr.cell 4, hr.cell 5, hr.cell 6⟩; have zf := Bk.free hr; clear hq
      clear hd
      go_simp
      exact ⟨rfl, Below.refl _ _⟩
    · intro vs W kk h1 h2 hW hd
      obtain rfl : kk = 0 := Nat.le_zero.1 h2
      refine leaves_free rfl ?_
      clear hd
      go_simp
      exact ⟨rfl, Below.refl _ _⟩
    · intro vs W kk h1 h2 hW hd
      obtain rfl : kk = 0 := Nat.le_zero.1 h2
      refine leaves_free rfl ?_
      have e5 : vs 5 = .pointer (some ⟨w.heap.size, 4, none⟩) := hd 5 (by decide)
      have hq := (HQ.out W hW).1; obtain ⟨f0, f1, f2, f3, f4, f5, f6⟩ : W.cell? ⟨w.heap.size, 0, none⟩ = some (.slice aL c.l.length cL) ∧ W.cell? ⟨w.heap.size, 1, none⟩ = some (.int .i64 c.lo) ∧ W.cell? ⟨w.heap.size, 2, none⟩ = some (.int .i64 c.un) ∧ W.cell? ⟨w.heap.size, 3, none⟩ = some (.slice aS zs.length cS) ∧ W.cell? ⟨w.heap.size, 4, none⟩ = some (.slice aI init.length cI) ∧ W.cell? ⟨w.heap.size, 5, none⟩ = some (.int .i64 each) ∧ W.cell? ⟨w.heap.size, 6, none⟩ = some (.slice aR r7.length cR) := ⟨hq.cell 0, hq.cell 1, hq.cell 2, hq.cell 3, hq.cell 4, hq.cell 5, hq.cell 6⟩; have hr := (HQ.out W hW).2.1; obtain ⟨z0, z1, z2, z3, z4, z5, z6⟩ : W.cell? ⟨w.heap.size + 1, 0, none⟩ = some (.slice none 0 0) ∧ W.cell? ⟨w.heap.size + 1, 1, none⟩ = some (.int .i64 0) ∧ W.cell? ⟨w.heap.size + 1, 2, none⟩ = some (.int .i64 0) ∧ W.cell? ⟨w.heap.size + 1, 3, none⟩ = some (.slice none 0 0) ∧ W.cell? ⟨w.heap.size + 1, 4, none⟩ = some (.slice none 0 0) ∧ W.cell? ⟨w.heap.size + 1, 5, none⟩ = some (.int .i64 0) ∧ W.cell? ⟨w.heap.size + 1, 6, none⟩ = some (.slice none 0 0) := ⟨hr.cell 0, hr.cell 1, hr.cell 2, hr.cell 3, hr.cell 4, hr.cell 5, hr.cell 6⟩; have zf := Bk.free hr; clear hq
      clear hd
      go_simp
      exact ⟨rfl, Below.refl _ _⟩
    · intro vs W kk h1 h2 hW hd
      obtain rfl : kk = 0 := Nat.le_zero.1 h2
      refine leaves_free rfl ?_
      clear hd
      go_simp
      exact ⟨rfl, Below.refl _ _⟩
    · intro vs W kk h1 h2 hW hd
      obtain rfl : kk = 0 := Nat.le_zero.1 h2
      refine leaves_free rfl ?_
      have e7 : vs 7 = .pointer (some ⟨w.heap.size, 5, none⟩) := hd 7 (by decide)
      have hq := (HQ.out W hW).1; obtain ⟨f0, f1, f2, f3, f4, f5, f6⟩ : W.cell? ⟨w.heap.size, 0, none⟩ = some (.slice aL c.l.length cL) ∧ W.cell? ⟨w.heap.size, 1, none⟩ = some (.int .i64 c.lo) ∧ W.cell? ⟨w.heap.size, 2, none⟩ = some (.int .i64 c.un) ∧ W.cell? ⟨w.heap.size, 3, none⟩ = some (.slice aS zs.length cS) ∧ W.cell? ⟨w.heap.size, 4, none⟩ = some (.slice aI init.length cI) ∧ W.cell? ⟨w.heap.size, 5, none⟩ = some (.int .i64 each) ∧ W.cell? ⟨w.heap.size, 6, none⟩ = some (.slice aR r7.length cR) := ⟨hq.cell 0, hq.cell 1, hq.cell 2, hq.cell 3, hq.cell 4, hq.cell 5, hq.cell 6⟩; have hr := (HQ.out W hW).2.1; obtain ⟨z0, z1, z2, z3, z4, z5, z6⟩ : W.cell? ⟨w.heap.size + 1, 0, none⟩ = some (.slice none 0 0) ∧ W.cell? ⟨w.heap.size + 1, 1, none⟩ = some (.int .i64 0) ∧ W.cell? ⟨w.heap.size + 1, 2, none⟩ = some (.int .i64 0) ∧ W.cell? ⟨w.heap.size + 1, 3, none⟩ = some (.slice none 0 0) ∧ W.cell? ⟨w.heap.size + 1, 4, none⟩ = some (.slice none 0 0) ∧ W.cell? ⟨w.heap.size + 1, 5, none⟩ = some (.int .i64 0) ∧ W.cell? ⟨w.heap.size + 1, 6, none⟩ = some (.slice none 0 0) := ⟨hr.cell 0, hr.cell 1, hr.cell 2, hr.cell 3, hr.cell 4, hr.cell 5, hr.cell 6⟩; have zf := Bk.free hr; clear hq
      clear hd
      go_simp
      exact ⟨rfl, Below.refl _ _⟩
    · intro vs W kk h1 h2 hW hd
      obtain rfl : kk = 0 := Nat.le_zero.1 h2
      refine leaves_free rfl ?_
      clear hd
      go_simp
      exact ⟨rfl, Below.refl _ _⟩
    · intro vs W kk h1 h2 hW hd
      obtain rfl : kk = 0 := Nat.le_zero.1 h2
      refine leaves_free rfl ?_
      have e9 : vs 9 = .pointer (some ⟨w.heap.size, 6, none⟩) := hd 9 (by decide)
      have hq := (HQ.out W hW).1; obtain ⟨f0, f1, f2, f3, f4, f5, f6⟩ : W.cell? ⟨w.heap.size, 0, none⟩ = some (.slice aL c.l.length cL) ∧ W.cell? ⟨w.heap.size, 1, none⟩ = some (.int .i64 c.lo) ∧ W.cell? ⟨w.heap.size, 2, none⟩ = some (.int .i64 c.un) ∧ W.cell? ⟨w.heap.size, 3, none⟩ = some (.slice aS zs.length cS) ∧ W.cell? ⟨w.heap.size, 4, none⟩ = some (.slice aI init.length cI) ∧ W.cell? ⟨w.heap.size, 5, none⟩ = some (.int .i64 each) ∧ W.cell? ⟨w.heap.size, 6, none⟩ = some (.slice aR r7.length cR) := ⟨hq.cell 0, hq.cell 1, hq.cell 2, hq.cell 3, hq.cell 4, hq.cell 5, hq.cell 6⟩; have hr := (HQ.out W hW).2.1; obtain ⟨z0, z1, z2, z3, z4, z5, z6⟩ : W.cell? ⟨w.heap.size + 1, 0, none⟩ = some (.slice none 0 0) ∧ W.cell? ⟨w.heap.size + 1, 1, none⟩ = some (.int .i64 0) ∧ W.cell? ⟨w.heap.size + 1, 2, none⟩ = some (.int .i64 0) ∧ W.cell? ⟨w.heap.size + 1, 3, none⟩ = some (.slice none 0 0) ∧ W.cell? ⟨w.heap.size + 1, 4, none⟩ = some (.slice none 0 0) ∧ W.cell? ⟨w.heap.size + 1, 5, none⟩ = some (.int .i64 0) ∧ W.cell? ⟨w.heap.size + 1, 6, none⟩ = some (.slice none 0 0) := ⟨hr.cell 0, hr.cell 1, hr.cell 2, hr.cell 3, hr.cell 4, hr.cell 5, hr.cell 6⟩; have zf := Bk.free hr; clear hq
      clear hd
      go_simp
      exact ⟨rfl, Below.refl _ _⟩
    · intro vs W kk h1 h2 hW hd
      obtain rfl : kk = 0 := Nat.le_zero.1 h2
      refine leaves_free rfl ?_
      have e4 : vs 4 = .slice aS zs.length cS := hd 4 (by decide)
      have e6 : vs 6 = .slice aI init.length cI := hd 6 (by decide)
      have e8 : vs 8 = .int .i64 each := hd 8 (by decide)
      have e10 : vs 10 = .slice aR r7.length cR := hd 10 (by decide)
      obtain ⟨sl, e2, ho⟩ : ∃ sl, vs 2 = .agg #[sl, .int .i64 c.lo, .int .i64 c.un] ∧ W.ownsRow w.heap.size 97 8 sl c.l.length (progC c.l) := hd 2 (by decide)
      clear hd
      go_simp
      exact ⟨⟨sl, rfl, ho⟩, Below.refl _ _⟩
    · intro vs W hW hd
      obtain ⟨sl, e11, ho⟩ : ∃ sl, vs 11 = .agg #[sl, .int .i64 c.lo, .int .i64 c.un, .slice aS zs.length cS, .slice aI init.length cI, .int .i64 each, .slice aR r7.length cR] ∧ W.ownsRow w.heap.size 97 8 sl c.l.length (progC c.l) := hd 11 (by decide)
      obtain ⟨aL9, cL9, rfl, -⟩ := own_is ho
      have hq := (HQ.out W hW).1; obtain ⟨f0, f1, f2, f3, f4, f5, f6⟩ : W.cell? ⟨w.heap.size, 0, none⟩ = some (.slice aL c.l.length cL) ∧ W.cell? ⟨w.heap.size, 1, none⟩ = some (.int .i64 c.lo) ∧ W.cell? ⟨w.heap.size, 2, none⟩ = some (.int .i64 c.un) ∧ W.cell? ⟨w.heap.size, 3, none⟩ = some (.slice aS zs.length cS) ∧ W.cell? ⟨w.heap.size, 4, none⟩ = some (.slice aI init.length cI) ∧ W.cell? ⟨w.heap.size, 5, none⟩ = some (.int .i64 each) ∧ W.cell? ⟨w.heap.size, 6, none⟩ = some (.slice aR r7.length cR) := ⟨hq.cell 0, hq.cell 1, hq.cell 2, hq.cell 3, hq.cell 4, hq.cell 5, hq.cell 6⟩; have hr := (HQ.out W hW).2.1; obtain ⟨z0, z1, z2, z3, z4, z5, z6⟩ : W.cell? ⟨w.heap.size + 1, 0, none⟩ = some (.slice none 0 0) ∧ W.cell? ⟨w.heap.size + 1, 1, none⟩ = some (.int .i64 0) ∧ W.cell? ⟨w.heap.size + 1, 2, none⟩ = some (.int .i64 0) ∧ W.cell? ⟨w.heap.size + 1, 3, none⟩ = some (.slice none 0 0) ∧ W.cell? ⟨w.heap.size + 1, 4, none⟩ = some (.slice none 0 0) ∧ W.cell? ⟨w.heap.size + 1, 5, none⟩ = some (.int .i64 0) ∧ W.cell? ⟨w.heap.size + 1, 6, none⟩ = some (.slice none 0 0) := ⟨hr.cell 0, hr.cell 1, hr.cell 2, hr.cell 3, hr.cell 4, hr.cell 5, hr.cell 6⟩; have zf := Bk.free hr; clear hq
      refine leavesIf_free rfl ?_
      clear hd
      go_simp
      exact ⟨rfl, ⟨.slice aL9 c.l.length cL9, own_safe ho (put7_within (y := W) (g := w.heap.size + 1) (.slice aL9 c.l.length cL9) (.int .i64 c.lo) (.int .i64 c.un) (.slice aS zs.length cS) (.slice aI init.length cI) (.int .i64 each) (.slice aR r7.length cR)) hr (by decide), put7_bk hr (.slice aL9 c.l.length cL9) (.int .i64 c.lo) (.int .i64 c.un) (.slice aS zs.length cS) (.slice aI init.length cI) (.int .i64 each) (.slice aR r7.length cR), put7_below (HQ.out W hW).2.2 (by omega) (.slice aL9 c.l.length cL9) (.int .i64 c.lo) (.int .i64 c.un) (.slice aS zs.length cS) (.slice aI init.length cI) (.int .i64 each) (.slice aR r7.length cR)⟩, put7_within (y := W) (g := w.heap.size + 1) (.slice aL9 c.l.length cL9) (.int .i64 c.lo) (.int .i64 c.un) (.slice aS zs.length cS) (.slice aI init.length cI) (.int .i64 each) (.slice aR r7.length cR)⟩
  case gdone =>
    intro vs W hW hf
    have f0 : vs 0 = .pointer (some ⟨w.heap.size, 0, none⟩) := hf 0 (by decide)
    have f1 : vs 1 = .agg #[.slice aL c.l.length cL, .int .i64 c.lo, .int .i64 c.un] := hf 1 (by decide)
    have f3 : vs 3 = .pointer (some ⟨w.heap.size, 3, none⟩) := hf 3 (by decide)
    have f4 : vs 4 = .slice aS zs.length cS := hf 4 (by decide)
    have f5 : vs 5 = .pointer (some ⟨w.heap.size, 4, none⟩) := hf 5 (by decide)
    have f6 : vs 6 = .slice aI init.length cI := hf 6 (by decide)
    have f7 : vs 7 = .pointer (some ⟨w.heap.size, 5, none⟩) := hf 7 (by decide)
    have f8 : vs 8 = .int .i64 each := hf 8 (by decide)
    have f9 : vs 9 = .pointer (some ⟨w.heap.size, 6, none⟩) := hf 9 (by decide)
    have f10 : vs 10 = .slice aR r7.length cR := hf 10 (by decide)
    simp only [f0, f1, f3, f4, f5, f6, f7, f8, f9, f10]
    clear f0 f1 f3 f4 f5 f6 f7 f8 f9 f10
    obtain ⟨sl, ho, hB, hb⟩ : ∃ sl, W.ownsRow w.heap.size 97 8 sl c.l.length (progC c.l) ∧ Bk W (w.heap.size + 1) 36 #[sl, .int .i64 c.lo, .int .i64 c.un, .slice aS zs.length cS, .slice aI init.length cI, .int .i64 each, .slice aR r7.length cR] ∧ Below w.heap.size w W := hW
    clear hf HQ HRF kx f0 f1 f2 f3 f4 f5 f6 q0 q1
    obtain ⟨f0, f1, f2, f3, f4, f5, f6⟩ : W.cell? ⟨w.heap.size + 1, 0, none⟩ = some sl ∧ W.cell? ⟨w.heap.size + 1, 1, none⟩ = some (.int .i64 c.lo) ∧ W.cell? ⟨w.heap.size + 1, 2, none⟩ = some (.int .i64 c.un) ∧ W.cell? ⟨w.heap.size + 1, 3, none⟩ = some (.slice aS zs.length cS) ∧ W.cell? ⟨w.heap.size + 1, 4, none⟩ = some (.slice aI init.length cI) ∧ W.cell? ⟨w.heap.size + 1, 5, none⟩ = some (.int .i64 each) ∧ W.cell? ⟨w.heap.size + 1, 6, none⟩ = some (.slice aR r7.length cR) := ⟨hB.cell 0, hB.cell 1, hB.cell 2, hB.cell 3, hB.cell 4, hB.cell 5, hB.cell 6⟩
    go_wp
    exact bodyPost_ret (v := .agg #[sl, .int .i64 c.lo, .int .i64 c.un, .slice aS zs.length cS, .slice aI init.length cI, .int .i64 each, .slice aR r7.length cR]) (by simp [results, Tryz.results6, go_sem, f0, f1, f2, f3, f4, f5, f6]) rfl ⟨_, rfl, ⟨sl, aS, cS, aI, cI, aR, cR, rfl, ho, hgS.below hb, hgI.below hb, hgR.below hb, hm1, hm2, hm3⟩, hb⟩

/-- What is known of a spec that may be. -/
structure OkSv (c : Prg) (zs init r7 : List Int) (each threads : Int) : Prop where
  rz : RightZ zs
  few : tot zs ≤ 8192
  len : init.length = tot zs
  n1 : 1 ≤ threads
  n64 : threads ≤ 64
  e0 : 0 ≤ each
  e8 : each ≤ 8
  rl : (r7.length : Int) = threads
  code : prgB c = true

/-- A result false says nothing; true says that the spec may be. -/
def RightTells (w : World) (P : Prop) (e : Ending) (w' : World) : Prop := Below w.heap.size w w' ∧ (e = .returned (.bool false) ∨ (e = .returned (.bool true) ∧ P))

set_option maxHeartbeats 4000000 in
theorem rRight10 {base : Nat} {w : World} {v : Value} {c : Prg} {zs init r7 : List Int} {each : Int} (hv : Rv base w v c zs init r7 each) (hw : ∀ i ∈ c.l, i.Wf) (t : Int) :
    Calls Tryz.prog 5 #[v, .int .i64 t] w (RightTells w (OkSv c zs init r7 each t)) := by
  obtain ⟨sl, aS, cS, aI, cI, aR, cR, rfl, ho, hgS, hgI, hgR, hm1, hm2, hm3⟩ := hv
  obtain ⟨aL, cL, rfl, _⟩ := own_is ho
  have q0 := Bk.made w 36 #[.slice aL c.l.length cL, .int .i64 c.lo, .int .i64 c.un, .slice aS zs.length cS, .slice aI init.length cI, .int .i64 each, .slice aR r7.length cR]
  have b0 : Below w.heap.size w (w.alloc (.cells #[.slice aL c.l.length cL, .int .i64 c.lo, .int .i64 c.un, .slice aS zs.length cS, .slice aI init.length cI, .int .i64 each, .slice aR r7.length cR] 36)) := (Below.refl _ _).alloc (Nat.le_refl _) _
  go_enter Tryz.func5, Tryz.ntmps5
  go_upto_region 1 with fail
  have hpv := fun W (hW : Below w.heap.size w W) => own_pv (own_below ho hW)
  have HPV := Lib.hid hpv
  clear hpv ho
  generalize w.alloc (.cells #[.slice aL c.l.length cL, .int .i64 c.lo, .int .i64 c.un, .slice aS zs.length cS, .slice aI init.length cI, .int .i64 each, .slice aR r7.length cR] 36) = y at *
  have hC := rCells (hgS.below b0) hm1 cS
  have y1 : y.cell? ⟨w.heap.size, 3, none⟩ = some (.slice aS zs.length cS) := q0.cell 3
  go_wp2_with fail
  refine hC.mono ?_
  intro e z hcp
  obtain ⟨hgr, va, n, vc, fl, rfl, hn, hcase⟩ := cells_cases10 hcp
  have hz := below_of_grown hgr
  have q1 := (hz.block _ q0.lt).trans q0
  have b1 := b0.trans (hz.mono b0.size)
  clear hC hcp hgr hz q0 b0 y1
  have HB := Lib.hid b1
  unfold maxLen at hm1 hm2 hm3
  obtain ⟨f0, f1, f2, f3, f4, f5, f6⟩ : z.cell? ⟨w.heap.size, 0, none⟩ = some (.slice aL c.l.length cL) ∧ z.cell? ⟨w.heap.size, 1, none⟩ = some (.int .i64 c.lo) ∧ z.cell? ⟨w.heap.size, 2, none⟩ = some (.int .i64 c.un) ∧ z.cell? ⟨w.heap.size, 3, none⟩ = some (.slice aS zs.length cS) ∧ z.cell? ⟨w.heap.size, 4, none⟩ = some (.slice aI init.length cI) ∧ z.cell? ⟨w.heap.size, 5, none⟩ = some (.int .i64 each) ∧ z.cell? ⟨w.heap.size, 6, none⟩ = some (.slice aR r7.length cR) := ⟨Bk.cell q1 0, Bk.cell q1 1, Bk.cell q1 2, Bk.cell q1 3, Bk.cell q1 4, Bk.cell q1 5, Bk.cell q1 6⟩
  clear q1 b1
  cases fl with
  | false =>
    clear hcase
    go_wp2
    go_ret
    exact ⟨HB.out, .inl rfl⟩
  | true =>
    have hR : RightZ zs ∧ tot zs ≤ 8192 ∧ n = tot zs := by
      rcases hcase with ⟨h1, h2, h3⟩ | h
      · exact ⟨h1, by have := of_decide_eq_true h2.symm; omega, h3⟩
      · cases h
    have HR := Lib.hid hR
    clear hR hcase
    by_cases h1 : n = init.length
    · have i1 : ((n : Int) == (init.length : Int)) = true := by simp; omega
      have HL := Lib.hid h1
      clear h1
      by_cases h2 : 1 ≤ t
      · by_cases h3 : t ≤ 64
        · by_cases h4 : 0 ≤ each
          · by_cases h5 : each ≤ 8
            · by_cases h6 : (r7.length : Int) = t
              · have i6 : ((r7.length : Int) == t) = true := by simpa using h6
                have HE := Lib.hid h6
                clear h6
                have hRP := rRightP c _ z (HPV.out z HB.out) hw
                go_wp2_with fail
                refine hRP.mono ?_
                rintro e z2 ⟨rfl, hz2⟩
                have HB2 := Lib.hid (HB.out.trans (hz2.mono HB.out.size))
                clear hz2 f0 f1 f2 f3 f4 f5 f6
                cases hpb : prgB c with
                | false =>
                  go_wp2
                  go_ret
                  exact ⟨HB2.out, .inl rfl⟩
                | true =>
                  go_wp2
                  go_ret
                  exact ⟨HB2.out, .inr ⟨rfl, HR.out.1, HR.out.2.1, by rw [← HL.out]; exact HR.out.2.2, h2, h3, h4, h5, HE.out, hpb⟩⟩
              · have i6 : ((r7.length : Int) == t) = false := by simpa using h6
                go_wp2
                go_ret
                exact ⟨HB.out, .inl rfl⟩
            · go_wp2
              go_ret
              exact ⟨HB.out, .inl rfl⟩
          · go_wp2
            go_ret
            exact ⟨HB.out, .inl rfl⟩
        · go_wp2
          go_ret
          exact ⟨HB.out, .inl rfl⟩
      · go_wp2
        go_ret
        exact ⟨HB.out, .inl rfl⟩
    · have i1 : ((n : Int) == (init.length : Int)) = false := by simp; omega
      go_wp2
      go_ret
      exact ⟨HB.out, .inl rfl⟩

/-- The example's lock. -/
def awkK : Lk := ⟨[⟨20, 1, 0, 0, 0, 0, 1, 0⟩, ⟨13, 0, 0, 0, 0, 0, 1, 0⟩], 0, 0, [1], 0, 1⟩
theorem awkK_ok : OkLk awkK := by
  refine ⟨by decide, ?_, ⟨by decide, ?_⟩, by decide, by decide, by decide, by decide⟩
  · intro i hi
    simp only [awkK, List.mem_cons, List.not_mem_nil, or_false] at hi
    rcases hi with rfl | rfl <;> decide
  · intro k hk
    have : k = 0 := by simp [awkK] at hk; omega
    subst this
    decide
def awkM : Mc := newM awkK [7] [0]
theorem awk_begin : (beginM awkK awkM 0 false).2 = ⟨[], -1, -1, false, false, 0⟩ := by kernel_rfl
theorem awk_step : (stepM awkK (beginM awkK awkM 0 false).1 0 false).2 = ⟨[], 1, 0, true, false, 0⟩ := by kernel_rfl
theorem awk_core : (stepM awkK (beginM awkK awkM 0 false).1 0 false).1.cs 0 = ⟨[0, 7, 0, 0, 0, 0, 0, 0], 1⟩ := by kernel_rfl

theorem given_one {k : IntKind} {w : World} {b : Nat} {ty : TypeId} {x : Int} (h : Bk w b ty #[.int k x]) : Given k w (some ⟨b, 0, none⟩) [x] := fun _ => ⟨b, 0, rfl, h.lt, fun i hi => by
  have : i = 0 := by simp at hi; omega
  subst this
  exact h.cell 0⟩
theorem stays_below {w W W' : World} {n : Nat} {X X' : XP} (b : Below w.heap.size w W) (hO : ∀ i, X.Own n i → w.heap.size ≤ i) (s : XStays W n X W' X') : Below w.heap.size w W' ∧ ∀ i, X'.Own n i → w.heap.size ≤ i :=
  ⟨⟨s.1.os.trans b.os, s.1.tape.trans b.tape, s.1.output.trans b.output, Nat.le_trans b.size s.1.size, fun i hi => (s.1.block i (Nat.lt_of_lt_of_le hi b.size) (fun e => by have := hO i (XP.has_own e); omega)).trans (b.block i hi)⟩,
   fun i hi => by
    rcases s.2.1 i hi with e | e
    · exact hO i e
    · exact Nat.le_trans b.size e⟩

set_option maxHeartbeats 4000000 in
theorem lAwake10 (w : World) : Calls Tryz.prog 7 #[] w fun e w' => e = .returned (.bool true) ∧ Below w.heap.size w w' := by
  have q0 := ((((Bk.made w 45 (progC awkK.l).toArray).alloc (.cells #[.int .i64 1] 3)).alloc (.cells #[.int .u32 7] 43)).alloc (.cells #[.int .u32 0] 43))
  have q1 := ((Bk.made (w.alloc (.cells (progC awkK.l).toArray 45)) 3 #[.int .i64 1]).alloc (.cells #[.int .u32 7] 43)).alloc (.cells #[.int .u32 0] 43)
  have q2 := (Bk.made ((w.alloc (.cells (progC awkK.l).toArray 45)).alloc (.cells #[.int .i64 1] 3)) 43 #[.int .u32 7]).alloc (.cells #[.int .u32 0] 43)
  have q3 := Bk.made (((w.alloc (.cells (progC awkK.l).toArray 45)).alloc (.cells #[.int .i64 1] 3)).alloc (.cells #[.int .u32 7] 43)) 43 #[.int .u32 0]
  have q4 := Bk.made ((((w.alloc (.cells (progC awkK.l).toArray 45)).alloc (.cells #[.int .i64 1] 3)).alloc (.cells #[.int .u32 7] 43)).alloc (.cells #[.int .u32 0] 43)) 28 #[.slice (some ⟨w.heap.size, 0, none⟩) 2 2, .int .i64 0, .int .i64 0, .slice (some ⟨w.heap.size + 1, 0, none⟩) 1 1, .slice (some ⟨w.heap.size + 1 + 1, 0, none⟩) 1 1, .int .i64 0, .slice (some ⟨w.heap.size + 1 + 1 + 1, 0, none⟩) 1 1]
  simp only [World.size_alloc] at q1 q2 q3 q4
  have b0 : Below w.heap.size w ((((w.alloc (.cells (progC awkK.l).toArray 45)).alloc (.cells #[.int .i64 1] 3)).alloc (.cells #[.int .u32 7] 43)).alloc (.cells #[.int .u32 0] 43)) := ((((Below.refl _ _).alloc (Nat.le_refl _) _).alloc (by simp) _).alloc (by simp; omega) _).alloc (by simp; omega) _
  go_enter Tryz.func7, Tryz.ntmps7
  go_upto_region 2 with fail
  generalize hy : (((w.alloc (.cells #[.int .i64 20, .int .i64 1, .int .i64 0, .int .i64 0, .int .i64 0, .int .i64 0, .int .u32 1, .int .i64 0, .int .i64 13, .int .i64 0, .int .i64 0, .int .i64 0, .int .i64 0, .int .i64 0, .int .u32 1, .int .i64 0] 45)).alloc (.cells #[.int .i64 1] 3)).alloc (.cells #[.int .u32 7] 43)).alloc (.cells #[.int .u32 0] 43) = y
  have hy2 : (((w.alloc (.cells (progC awkK.l).toArray 45)).alloc (.cells #[.int .i64 1] 3)).alloc (.cells #[.int .u32 7] 43)).alloc (.cells #[.int .u32 0] 43) = y := hy
  rw [hy2] at q0 q1 q2 q3 q4 b0
  clear hy hy2
  have hz := (Below.refl y.heap.size y).alloc (Nat.le_refl _) (.cells #[.slice (some ⟨w.heap.size, 0, none⟩) 2 2, .int .i64 0, .int .i64 0, .slice (some ⟨w.heap.size + 1, 0, none⟩) 1 1, .slice (some ⟨w.heap.size + 1 + 1, 0, none⟩) 1 1, .int .i64 0, .slice (some ⟨w.heap.size + 1 + 1 + 1, 0, none⟩) 1 1] 28)
  have b1 := b0.trans (hz.mono b0.size)
  replace q0 := (hz.block _ (Bk.lt q0)).trans q0
  replace q1 := (hz.block _ (Bk.lt q1)).trans q1
  replace q2 := (hz.block _ (Bk.lt q2)).trans q2
  replace q3 := (hz.block _ (Bk.lt q3)).trans q3
  clear hz b0
  generalize y.alloc (.cells #[.slice (some ⟨w.heap.size, 0, none⟩) 2 2, .int .i64 0, .int .i64 0, .slice (some ⟨w.heap.size + 1, 0, none⟩) 1 1, .slice (some ⟨w.heap.size + 1 + 1, 0, none⟩) 1 1, .int .i64 0, .slice (some ⟨w.heap.size + 1 + 1 + 1, 0, none⟩) 1 1] 28) = y2 at *
  have hSli : Sli y2 (some ⟨w.heap.size, 0, none⟩) awkK.l := fun _ => ⟨w.heap.size, 0, rfl, Bk.lt q0, fun k i hk j hj => by
    rw [Nat.zero_add, Bk.cell q0, List.getElem?_toArray, progC_at hk hj]⟩
  have hSv : Sv y2 (.agg #[.slice (some ⟨w.heap.size, 0, none⟩) 2 2, .int .i64 0, .int .i64 0, .slice (some ⟨w.heap.size + 1, 0, none⟩) 1 1, .slice (some ⟨w.heap.size + 1 + 1, 0, none⟩) 1 1, .int .i64 0, .slice (some ⟨w.heap.size + 1 + 1 + 1, 0, none⟩) 1 1]) ⟨awkK.l, awkK.lo, awkK.un⟩ awkK.zs [7] [0] awkK.each :=
    ⟨_, 2, _, 1, _, 1, _, 1, rfl, ⟨_, 2, rfl, by decide, by simp [maxLen], by simp, hSli⟩, given_one q1, given_one q2, given_one q3, by simp [awkK, maxLen], by simp [maxLen], by simp [maxLen]⟩
  have hN : Calls Tryz.prog 8 #[.agg #[.slice (some ⟨w.heap.size, 0, none⟩) 2 2, .int .i64 0, .int .i64 0, .slice (some ⟨w.heap.size + 1, 0, none⟩) 1 1, .slice (some ⟨w.heap.size + 1 + 1, 0, none⟩) 1 1, .int .i64 0, .slice (some ⟨w.heap.size + 1 + 1 + 1, 0, none⟩) 1 1], .int .i64 1] y2 (NewX y2 awkK [7] [0]) := xNew awkK_ok hSv (by decide) (by intro x hx; simp at hx; omega) rfl (by intro x hx; simp at hx; omega)
  obtain ⟨f0, f1, f2, f3, f4, f5, f6⟩ : y2.cell? ⟨w.heap.size + 1 + 1 + 1 + 1, 0, none⟩ = some (.slice (some ⟨w.heap.size, 0, none⟩) 2 2) ∧ y2.cell? ⟨w.heap.size + 1 + 1 + 1 + 1, 1, none⟩ = some (.int .i64 0) ∧ y2.cell? ⟨w.heap.size + 1 + 1 + 1 + 1, 2, none⟩ = some (.int .i64 0) ∧ y2.cell? ⟨w.heap.size + 1 + 1 + 1 + 1, 3, none⟩ = some (.slice (some ⟨w.heap.size + 1, 0, none⟩) 1 1) ∧ y2.cell? ⟨w.heap.size + 1 + 1 + 1 + 1, 4, none⟩ = some (.slice (some ⟨w.heap.size + 1 + 1, 0, none⟩) 1 1) ∧ y2.cell? ⟨w.heap.size + 1 + 1 + 1 + 1, 5, none⟩ = some (.int .i64 0) ∧ y2.cell? ⟨w.heap.size + 1 + 1 + 1 + 1, 6, none⟩ = some (.slice (some ⟨w.heap.size + 1 + 1 + 1, 0, none⟩) 1 1) := ⟨q4.cell 0, q4.cell 1, q4.cell 2, q4.cell 3, q4.cell 4, q4.cell 5, q4.cell 6⟩
  clear q0 q1 q2 q3 hSli hSv
  clear q4
  go_wp2_with fail
  refine hN.mono ?_
  rintro e y3 ⟨X, rfl, hX, hy3, hO⟩
  have b2 := b1.trans (hy3.mono b1.size)
  replace hO : ∀ i, X.Own awkK.n i → w.heap.size ≤ i := fun i hi => Nat.le_trans b1.size (hO i hi)
  clear f0 f1 f2 f3 f4 f5 f6 hN hy3 b1
  have hB : Calls Tryz.prog 10 #[.pointer (some ⟨X.x, 0, none⟩), .int .i64 0, .bool false] y3 (Came y3 X awkK (beginM awkK awkM 0 false)) := xBegin hX 0 (by decide) false
  go_wp2_with fail
  refine hB.mono ?_
  rintro e y4 ⟨v1, M1, rfl, hl1, hX1, hs1⟩
  rw [awk_begin] at hl1 ⊢
  obtain ⟨a1, k1, e1, -⟩ := hl1.is
  subst e1
  obtain ⟨b3, hO1⟩ := stays_below b2 hO hs1
  unfold otV
  simp only [List.length_nil]
  clear hl1 hs1 hB hX b2 hO
  have hS : Calls Tryz.prog 12 #[.pointer (some ⟨X.x, 0, none⟩), .int .i64 0, .bool false] y4 (Came y4 { X with M := M1 } awkK (stepM awkK (beginM awkK awkM 0 false).1 0 false)) := xStep hX1 0 (by decide) false
  go_wp2_with fail
  refine hS.mono ?_
  rintro e y5 ⟨v2, M2, rfl, hl2, hX2, hs2⟩
  rw [awk_step] at hl2 ⊢
  obtain ⟨a2, k2, e2, -⟩ := hl2.is
  subst e2
  obtain ⟨b5, hO2⟩ := stays_below b3 hO1 hs2
  unfold otV
  simp only [List.length_nil]
  clear hl2 hs2 hS hX1 b3 hO1 hO2
  go_upto_region 6 with fail
  have hz := ((Below.refl y5.heap.size y5).alloc (Nat.le_refl _) (.cells #[.slice a1 0 k1, .int .i64 (-1), .int .i64 (-1), .bool false, .bool false, .int .i64 0] 51)).alloc (by simp) (.cells #[.slice a2 0 k2, .int .i64 1, .int .i64 0, .bool true, .bool false, .int .i64 0] 51)
  have o1 := (Bk.made y5 51 #[.slice a1 0 k1, .int .i64 (-1), .int .i64 (-1), .bool false, .bool false, .int .i64 0]).alloc (.cells #[.slice a2 0 k2, .int .i64 1, .int .i64 0, .bool true, .bool false, .int .i64 0] 51)
  have o2 := Bk.made (y5.alloc (.cells #[.slice a1 0 k1, .int .i64 (-1), .int .i64 (-1), .bool false, .bool false, .int .i64 0] 51)) 51 #[.slice a2 0 k2, .int .i64 1, .int .i64 0, .bool true, .bool false, .int .i64 0]
  rw [World.size_alloc] at o2
  have hX3 := hX2.below hz
  have b6 := b5.trans (hz.mono b5.size)
  clear hz hX2 b5
  generalize y5.heap.size = n5 at *
  generalize (y5.alloc (.cells #[.slice a1 0 k1, .int .i64 (-1), .int .i64 (-1), .bool false, .bool false, .int .i64 0] 51)).alloc (.cells #[.slice a2 0 k2, .int .i64 1, .int .i64 0, .bool true, .bool false, .int .i64 0] 51) = y6 at *
  have d1 : y6.cell? ⟨n5, 1, none⟩ = some (.int .i64 (-1)) := o1.cell 1
  have d2 : y6.cell? ⟨n5, 2, none⟩ = some (.int .i64 (-1)) := o1.cell 2
  have d3 : y6.cell? ⟨n5 + 1, 1, none⟩ = some (.int .i64 1) := o2.cell 1
  have d4 : y6.cell? ⟨n5 + 1, 2, none⟩ = some (.int .i64 0) := o2.cell 2
  have d5 : y6.cell? ⟨n5 + 1, 3, none⟩ = some (.bool true) := o2.cell 3
  have hC : Calls Tryz.prog 19 #[.pointer (some ⟨X.x, 0, none⟩), .int .i64 0] y6 fun e w' => e = .returned (cv ((stepM awkK (beginM awkK awkM 0 false).1 0 false).1.cs 0).xs ((stepM awkK (beginM awkK awkM 0 false).1 0 false).1.cs 0).pc) ∧ Below y6.heap.size y6 w' := xCore hX3 0 (by decide)
  rw [awk_core] at hC
  unfold cv at hC
  simp only [corC, List.map_cons, List.map_nil, List.cons_append, List.nil_append] at hC
  clear hX3 o1 o2
  go_wp2_with fail
  refine hC.mono ?_
  rintro e y7 ⟨rfl, hy7⟩
  have b7 := b6.trans (hy7.mono b6.size)
  clear hC hy7 b6
  have hF : ∀ W, Sem.run Tryz.prog (Instr.field 66 (.agg #[.int .u32 0, .int .u32 7, .int .u32 0, .int .u32 0, .int .u32 0, .int .u32 0, .int .u32 0, .int .u32 0, .int .i64 1]) 0) W = .ok (.agg #[.int .u32 0, .int .u32 7, .int .u32 0, .int .u32 0, .int .u32 0, .int .u32 0, .int .u32 0, .int .u32 0]) W := fun _ => rfl
  have hI : ∀ W, Sem.run Tryz.prog (Instr.index 64 (.agg #[.int .u32 0, .int .u32 7, .int .u32 0, .int .u32 0, .int .u32 0, .int .u32 0, .int .u32 0, .int .u32 0]) (.int .i64 1)) W = .ok (.int .u32 7) W := fun _ => rfl
  go_wp2
  go_ret
  exact ⟨rfl, b7⟩
end Go.Proofs.YtpinpipjlongaaaGreat

/- A spec that came in by value, opened. -/
namespace Go.Proofs.YtpinpipjlongaaaGreat
set_option maxRecDepth 100000
open Go.Joins Go.ChangeShapes Go.WideShapes Go.ChangeAt Go.RowKit Go.Deep
set_option linter.unusedVariables false

section
variable {H : Type} {enc : TypeId × Value → H} {w : World} {base : Nat} {spare : Nat → Bool} {held : Bool} {r : Reach} {b0 : Nat} {v : Value} {d : DataW H} {p : List MemPlace}
/-- A slice of ints that came in. -/
theorem open_szs {n : Nat} {v : Value} {y : DataW H × List MemPlace} (h : DataW.trod enc Tryz.prog w base spare held n 25 [v] = some y) : ∃ a cap zs, v = .slice a zs.length cap ∧ Given .i64 w a zs ∧ zs.length ≤ maxLen := by
  rcases open_ints Tryz.underlying25 Tryz.underlying3 (by kernel_rfl) h with ⟨hcs, _⟩ | ⟨x, l, c, zs, hcs, _, hl, hm, hz, _, hcell, hwz⟩
  · simp only [List.cons.injEq, and_true] at hcs
    subst hcs
    exact ⟨none, 0, [], rfl, given_nil _ _ _, by simp⟩
  · simp only [List.cons.injEq, and_true] at hcs
    subst hcs
    have hz' : l ≤ zs.length ∧ zs.length ≤ c := by rw [hz]; split <;> omega
    refine ⟨some x, c, zs.take l, ?_, given_of (by omega) hcell, by simp; omega⟩
    rw [List.length_take, Nat.min_eq_left (by omega)]

/-- A slice of words that came in. -/
theorem open_u32s {n : Nat} {v : Value} {y : DataW H × List MemPlace} (h : DataW.trod enc Tryz.prog w base spare held n 26 [v] = some y) : ∃ a cap zs, v = .slice a zs.length cap ∧ Given .u32 w a zs ∧ zs.length ≤ maxLen ∧ U32s zs := by
  rcases open_ints Tryz.underlying26 Tryz.underlying43 (by kernel_rfl) h with ⟨hcs, _⟩ | ⟨x, l, c, zs, hcs, _, hl, hm, hz, _, hcell, hwz⟩
  · simp only [List.cons.injEq, and_true] at hcs
    subst hcs
    exact ⟨none, 0, [], rfl, given_nil _ _ _, by simp, by intro x hx; cases hx⟩
  · simp only [List.cons.injEq, and_true] at hcs
    subst hcs
    have hz' : l ≤ zs.length ∧ zs.length ≤ c := by rw [hz]; split <;> omega
    refine ⟨some x, c, zs.take l, ?_, given_of (by omega) hcell, by simp; omega, fun n hn => u32_bounds (hwz n (List.mem_of_mem_take hn))⟩
    rw [List.length_take, Nat.min_eq_left (by omega)]

theorem open_code3 {n : Nat} {v0 v1 v2 : Value} {y : DataW H × List MemPlace} (hf : DataW.trod enc Tryz.prog w base spare held n 24 [v0, v1, v2] = some y) : ∃ c : Prg, Pv w (.agg #[v0, v1, v2]) c ∧ PrgWf c := by
  have hS : Tryz.prog.cellsOf 22 = 1 := by kernel_rfl
  have hI : Tryz.prog.cellsOf 3 = 1 := by kernel_rfl
  obtain ⟨xs, n2, _, hx, _, hlen, hg⟩ := DataW.trod_struct Tryz.underlying24 hf
  obtain ⟨y0, y1, y2, rfl⟩ : ∃ y0 y1 y2, xs = [y0, y1, y2] := by
    match xs, hlen with
    | [y0, y1, y2], _ => exact ⟨y0, y1, y2, rfl⟩
  have t0 := hg 0 _ rfl
  have t1 := hg 1 _ rfl
  have t2 := hg 2 _ rfl
  simp [hS, hI] at t0 t1 t2
  obtain ⟨x1, e1, _, w1⟩ := DataW.trod_int Tryz.underlying3 t1
  obtain ⟨x2, e2, _, w2⟩ := DataW.trod_int Tryz.underlying3 t2
  simp only [List.cons.injEq, and_true] at e1 e2
  subst e1 e2
  obtain ⟨q1, q2⟩ := i64_fits w1
  obtain ⟨q3, q4⟩ := i64_fits w2
  rcases open_slice Tryz.underlying22 t0 with ⟨hcs, _⟩ | ⟨ad, len, cap, m, n', D, Pl, hcs, _, hl, hm, _⟩
  · simp only [List.cons.injEq, and_true] at hcs
    subst hcs
    exact ⟨⟨[], x1, x2⟩, ⟨none, 0, rfl, Nat.le_refl _, by simp, fun _ => rfl, fun h => by simp at h⟩, ⟨by simp, q1, q2, q3, q4⟩⟩
  · simp only [List.cons.injEq, and_true] at hcs
    subst hcs
    obtain ⟨_, hr⟩ := open_recs (e := 45) Tryz.underlying22 Tryz.underlying45 (by kernel_rfl) (by kernel_rfl) (by decide) t0
    by_cases h0 : len = 0
    · subst h0
      exact ⟨⟨[], x1, x2⟩, ⟨some ad, cap, rfl, hl, hm, (fun h => (by cases h)), (fun h => (by simp at h))⟩, ⟨by simp, q1, q2, q3, q4⟩⟩
    obtain ⟨b, off, e, hlt, hc⟩ := hr (by omega)
    injection e with e
    subst e
    obtain ⟨l, rfl, hw, hl2⟩ := ins_list (w := w) (b := b) (off := off) len (fun k hk => by
      obtain ⟨u0, c0, k0⟩ := hc k hk 0 (by decide)
      obtain ⟨u1, c1, k1⟩ := hc k hk 1 (by decide)
      obtain ⟨u2, c2, k2⟩ := hc k hk 2 (by decide)
      obtain ⟨u3, c3, k3⟩ := hc k hk 3 (by decide)
      obtain ⟨u4, c4, k4⟩ := hc k hk 4 (by decide)
      obtain ⟨u5, c5, k5⟩ := hc k hk 5 (by decide)
      obtain ⟨u6, c6, k6⟩ := hc k hk 6 (by decide)
      obtain ⟨u7, c7, k7⟩ := hc k hk 7 (by decide)
      obtain ⟨_, _, s0⟩ := k0 _ rfl
      obtain ⟨_, _, s1⟩ := k1 _ rfl
      obtain ⟨_, _, s2⟩ := k2 _ rfl
      obtain ⟨_, _, s3⟩ := k3 _ rfl
      obtain ⟨_, _, s4⟩ := k4 _ rfl
      obtain ⟨_, _, s5⟩ := k5 _ rfl
      obtain ⟨_, _, s6⟩ := k6 _ rfl
      obtain ⟨_, _, s7⟩ := k7 _ rfl
      obtain ⟨n0, e0, _, w0⟩ := DataW.trod_int Tryz.underlying3 s0
      obtain ⟨n1, e1, _, w1⟩ := DataW.trod_int Tryz.underlying3 s1
      obtain ⟨n2, e2, _, w2⟩ := DataW.trod_int Tryz.underlying3 s2
      obtain ⟨n3, e3, _, w3⟩ := DataW.trod_int Tryz.underlying3 s3
      obtain ⟨n4, e4, _, w4⟩ := DataW.trod_int Tryz.underlying3 s4
      obtain ⟨n5, e5, _, w5⟩ := DataW.trod_int Tryz.underlying3 s5
      obtain ⟨n6, e6, _, w6⟩ := DataW.trod_int Tryz.underlying43 s6
      obtain ⟨n7, e7, _, w7⟩ := DataW.trod_int Tryz.underlying3 s7
      simp only [List.cons.injEq, and_true] at e0 e1 e2 e3 e4 e5 e6 e7
      subst e0 e1 e2 e3 e4 e5 e6 e7
      refine ⟨⟨n0, n1, n2, n3, n4, n5, n6, n7⟩, ?_, fun j hj => ?_⟩
      · obtain ⟨a0, b0⟩ := i64_fits w0
        obtain ⟨a1, b1⟩ := i64_fits w1
        obtain ⟨a2, b2⟩ := i64_fits w2
        obtain ⟨a3, b3⟩ := i64_fits w3
        obtain ⟨a4, b4⟩ := i64_fits w4
        obtain ⟨a5, b5⟩ := i64_fits w5
        obtain ⟨a6, b6⟩ := u32_bounds w6
        obtain ⟨a7, b7⟩ := i64_fits w7
        constructor <;> assumption
      · match j, hj with
        | 0, _ => exact c0
        | 1, _ => exact c1
        | 2, _ => exact c2
        | 3, _ => exact c3
        | 4, _ => exact c4
        | 5, _ => exact c5
        | 6, _ => exact c6
        | 7, _ => exact c7)
    exact ⟨⟨l, x1, x2⟩, ⟨some ⟨b, off, none⟩, cap, rfl, hl, hm, fun h => (by cases h), fun _ => ⟨b, off, rfl, hlt, hl2⟩⟩, ⟨hw, q1, q2, q3, q4⟩⟩

theorem open_spec (hv : Value.okWide Tryz.prog w r b0 28 v) (h : DataW.Trod enc Tryz.prog w base spare held 28 v d p) :
    ∃ c zs init r7 each, Sv w v c zs init r7 each ∧ PrgWf c ∧ U32s init ∧ U32s r7 := by
  obtain ⟨cs, rfl, hsz⟩ := okWide_struct Tryz.underlying28 hv
  obtain ⟨l⟩ := cs
  have hC : Tryz.prog.cellsOf 28 = 7 := by kernel_rfl
  have hK : Tryz.prog.cellsOf 24 = 3 := by kernel_rfl
  have hS : Tryz.prog.cellsOf 25 = 1 := by kernel_rfl
  have hU : Tryz.prog.cellsOf 26 = 1 := by kernel_rfl
  have hI : Tryz.prog.cellsOf 3 = 1 := by kernel_rfl
  match l, hsz.trans hC with
  | [c0, c1, c2, c3, c4, c5, c6], _ =>
    obtain ⟨fuel, hf⟩ := h
    obtain ⟨xs, n, _, hx, _, hlen, hg⟩ := DataW.trod_struct Tryz.underlying28 hf
    obtain ⟨y0, y1, y2, y3, y4, rfl⟩ : ∃ y0 y1 y2 y3 y4, xs = [y0, y1, y2, y3, y4] := by
      match xs, hlen with
      | [y0, y1, y2, y3, y4], _ => exact ⟨y0, y1, y2, y3, y4, rfl⟩
    have t0 := hg 0 _ rfl
    have t1 := hg 1 _ rfl
    have t2 := hg 2 _ rfl
    have t3 := hg 3 _ rfl
    have t4 := hg 4 _ rfl
    simp [hK, hS, hU, hI, Value.cells] at t0 t1 t2 t3 t4
    obtain ⟨c, hc, hw⟩ := open_code3 t0
    obtain ⟨a1, k1, z1, rfl, g1, m1⟩ := open_szs t1
    obtain ⟨a2, k2, z2, rfl, g2, m2, u2⟩ := open_u32s t2
    obtain ⟨x3, e3, _, w3⟩ := DataW.trod_int Tryz.underlying3 t3
    obtain ⟨a4, k4, z4, rfl, g4, m4, u4⟩ := open_u32s t4
    simp only [List.cons.injEq, and_true] at e3
    subst e3
    have hc2 := hc
    obtain ⟨a0, k0, e0, _⟩ := hc2
    injection e0 with e0
    simp at e0
    obtain ⟨rfl, rfl, rfl⟩ := e0
    exact ⟨c, z1, z2, z4, x3, ⟨a0, k0, a1, k1, a2, k2, a4, k4, rfl, hc, g1, g2, g4, m1, m2, m4⟩, hw, u2, u4⟩
end
end Go.Proofs.YtpinpipjlongaaaGreat

/- The document's New, of a right spec. -/

namespace Go.Proofs.YtpinpipjlongaaaGreat
set_option maxRecDepth 100000
open Go.ChangeShapes Go.WideShapes Go.ChangeAt Go.RowKit
set_option linter.unusedVariables false

/-- append to nothing, of words that came in. -/
theorem run_appW {W : World} {cap0 : Nat} {a0 : Option Addr} {xs : List Int} (h : Given .u32 W a0 xs) (hm : xs.length ≤ 100000) :
    ∃ v' W', (Builtin.append_ #[26, 26] 26 #[.slice none 0 0, .slice a0 xs.length cap0]).run Tryz.prog W = .ok v' W' ∧ Lst .u32 43 W' v' xs ∧ Below W.heap.size W W' ∧ ∀ g, v'.ownBlock = some g → W.heap.size ≤ g := by
  obtain ⟨i0, hi0, hz0, hz1, hz2⟩ := info_parts u32info
  by_cases h0 : xs = []
  · subst h0
    refine ⟨.slice none 0 0, W, ?_, Lst.nil _ _ _, Below.refl _ _, fun g e => by cases e⟩
    have hu : Tryz.prog.underlying 26 = some (.slice 43) := Tryz.underlying26
    have hl : ∀ (x : Addr), (loadCells x 0).run Tryz.prog W = .ok #[] W := fun x => by simpa using run_loadCells_list (P := Tryz.prog) W x [] (by simp)
    cases a0 <;> simp [Builtin.append_, run_underlying hu, sizeOf, typeInfo, hi0, Builtin.lenOf, Builtin.firstCells, hl]
  · obtain ⟨b', off, rfl, hlt, hc⟩ := h (List.length_pos_iff.2 h0)
    obtain ⟨v', W', hr, ho, hg, _⟩ := run_append_own (P := Tryz.prog) W W.heap.size 26 26 43 i0 _ 1 4 Tryz.underlying26 hi0 hz0 hz1 hz2 rfl (by omega) (.slice none 0 0) 0 [] (World.ownsRow_nil _ _ _ _) ⟨b', off, none⟩ xs.length cap0 (xs.map (Value.int .u32)) (by simp) (given_add hc) (by intro u hu; simp at hu; obtain ⟨x, _, rfl⟩ := hu; rfl) (by unfold maxLen; omega) (by omega) (Nat.le_refl _)
    rw [Nat.zero_add, List.nil_append] at ho
    exact ⟨v', W', hr, World.ownsRow.mono (base' := 0) ho (Nat.zero_le _), below_of_grown hg, fun g e => (World.ownsRow.lt ho g e).1⟩

/-- A new lock of the document's while it is made: so many words, so many cores. -/
structure NwY (w : World) (base : Nat) (k : Lk) (Y : YP) (ws : List Int) (cs : Nat → Cor) (j : Nat) (W : World) : Prop where
  ptr : Bk W Y.y 83 #[Y.cv, .int .i64 k.lo, .int .i64 k.un, Y.cl, Y.wl, .pointer (some ⟨Y.x, 0, none⟩), Y.kl, .int .i64 Y.ac]
  code : W.ownsRow 0 97 8 Y.cv k.l.length (progC k.l)
  cells : Cs 0 W Y.cl (cels k.zs)
  words : Lst .u32 43 W Y.wl ws
  pool : Rf W Y.x k.n k.each Y.R (newN k.n k.each).free (newN k.n k.each).gen (newN k.n k.each).out
  cores : W.ownsRow w.heap.size 86 9 Y.kl j (coresR cs j)
  gr : Below w.heap.size w W
  newy : w.heap.size ≤ Y.y
  new : ∀ i, Y.Own k.n i → base ≤ i
section
variable {w W W' : World} {base : Nat} {k : Lk} {Y : YP} {ws : List Int} {cs : Nat → Cor} {j : Nat}
theorem NwY.kept (h : NwY w base k Y ws cs j W) {S : Nat → Prop} (hw : Within W W' S) (hn : ∀ i, S i → w.heap.size ≤ i) (h1 : ¬ S Y.y) (h2 : ∀ g, Y.cv.ownBlock = some g → ¬ S g) (h3 : ∀ g, Y.cl.ownBlock = some g → ¬ S g) (h4 : ∀ g, Y.wl.ownBlock = some g → ¬ S g) (h5 : ¬ S Y.x) (h6 : ∀ g, Y.kl.ownBlock = some g → ¬ S g) (h7 : ∀ i, Y.R.Has k.n i → ¬ S i) : NwY w base k Y ws cs j W' :=
  ⟨h.ptr.within hw h1, own_within h.code hw h2, h.cells.within hw h3, h.words.within hw h4, h.pool.kept hw h5 h7, own_within h.cores hw h6,
    ⟨hw.os.trans h.gr.os, hw.tape.trans h.gr.tape, hw.output.trans h.gr.output, Nat.le_trans h.gr.size hw.size, fun i hi => (hw.block i (Nat.lt_of_lt_of_le hi h.gr.size) (fun e => by have := hn i e; omega)).trans (h.gr.block i hi)⟩, h.newy, h.new⟩
theorem NwY.below (h : NwY w base k Y ws cs j W) (hb : Below W.heap.size W W') : NwY w base k Y ws cs j W' :=
  h.kept (within_of_below hb) (by simp) (by simp) (by simp) (by simp) (by simp) (by simp) (by simp) (by simp)
/-- The words are laid. -/
theorem NwY.words_ (h : NwY w base k Y [] cs j W) {v : Value} (hl : Lst .u32 43 W v ws) (hn : ∀ g, v.ownBlock = some g → base ≤ g) : NwY w base k { Y with wl := v } ws cs j (W.setCell ⟨Y.y, 4, none⟩ v) := by
  have hW := reg_within W Y.y 4 v
  have far : ∀ {g : Nat} {t : TypeId} {c : Array Value}, Bk W g t c → t ≠ 83 → g ≠ Y.y := fun hb ht e => Bk.unlike hb h.ptr ht e
  refine ⟨h.ptr.put 4 v, own_within h.code hW (fun g e => ?_), h.cells.within hW (fun g e => ?_), hl.within hW (fun g e => ?_), h.pool.kept hW (far h.pool.ptr (by decide)) (fun i hi e => Rf.not_has h.pool h.ptr (by decide) (by decide) (e ▸ hi)), own_within h.cores hW (fun g e => ?_),
    h.gr.setCell (p := ⟨Y.y, 4, none⟩) h.newy v, h.newy, fun i hi => ?_⟩
  · obtain ⟨c, hc⟩ := own_bk h.code e; exact far hc (by decide)
  · obtain ⟨c, hc⟩ := own_bk h.cells e; exact far hc (by decide)
  · obtain ⟨c, hc⟩ := hl.bk e; exact far hc (by decide)
  · obtain ⟨c, hc⟩ := own_bk h.cores e; exact far hc (by decide)
  · rcases hi with e | e | e | e | e | e | e
    · exact h.new i (.inl e)
    · exact h.new i (.inr (.inl e))
    · exact h.new i (.inr (.inr (.inl e)))
    · exact hn i e
    · exact h.new i (.inr (.inr (.inr (.inr (.inl e)))))
    · exact h.new i (.inr (.inr (.inr (.inr (.inr (.inl e))))))
    · exact h.new i (.inr (.inr (.inr (.inr (.inr (.inr e))))))
/-- The cores' row has grown. -/
theorem NwY.grow (h : NwY w base k Y ws cs j W) (hg : W.grownBy W' Y.kl.ownBlock) (hn : ∀ g, Y.kl.ownBlock = some g → w.heap.size ≤ g) :
    Bk W' Y.y 83 #[Y.cv, .int .i64 k.lo, .int .i64 k.un, Y.cl, Y.wl, .pointer (some ⟨Y.x, 0, none⟩), Y.kl, .int .i64 Y.ac] ∧ ∀ v, W'.ownsRow w.heap.size 86 9 v (j + 1) (coresR cs (j + 1)) → base ≤ w.heap.size → NwY w base k { Y with kl := v } ws cs (j + 1) (W'.setCell ⟨Y.y, 6, none⟩ v) := by
  have hw : Within W W' (fun i => Y.kl.ownBlock = some i) := .of_grown hg (fun i e => .inl e)
  have far : ∀ {g : Nat} {t : TypeId} {c : Array Value}, Bk W g t c → t ≠ 86 → ¬ Y.kl.ownBlock = some g := fun hb ht e => by
    obtain ⟨c, hc⟩ := own_bk h.cores e
    exact Bk.unlike hb hc ht rfl
  have hp := h.ptr.within hw (far h.ptr (by decide))
  refine ⟨hp, fun v hv hbase => ?_⟩
  have hW := reg_within W' Y.y 6 v
  have far2 : ∀ {g : Nat} {t : TypeId} {c : Array Value}, Bk W' g t c → t ≠ 83 → g ≠ Y.y := fun hb ht e => Bk.unlike hb hp ht e
  have k1 : W'.ownsRow 0 97 8 Y.cv k.l.length (progC k.l) := own_within h.code hw (fun g e => by obtain ⟨c, hc⟩ := own_bk h.code e; exact far hc (by decide))
  have k2 : Cs 0 W' Y.cl (cels k.zs) := h.cells.within hw (fun g e => by obtain ⟨c, hc⟩ := own_bk h.cells e; exact far hc (by decide))
  have k3 : Lst .u32 43 W' Y.wl ws := h.words.within hw (fun g e => by obtain ⟨c, hc⟩ := h.words.bk e; exact far hc (by decide))
  have k4 := h.pool.kept hw (far h.pool.ptr (by decide)) (fun i hi => by
    obtain ⟨t, c, hb, ht⟩ := h.pool.bk hi
    exact far hb (by rcases ht with rfl | rfl <;> decide))
  refine ⟨hp.put 6 v, own_within k1 hW (fun g e => ?_), k2.within hW (fun g e => ?_), k3.within hW (fun g e => ?_), k4.kept hW (far2 k4.ptr (by decide)) (fun i hi e => Rf.not_has k4 hp (by decide) (by decide) (e ▸ hi)), own_within hv hW (fun g e => ?_), ?_, h.newy, fun i hi => ?_⟩
  · obtain ⟨c, hc⟩ := own_bk k1 e; exact far2 hc (by decide)
  · obtain ⟨c, hc⟩ := own_bk k2 e; exact far2 hc (by decide)
  · obtain ⟨c, hc⟩ := k3.bk e; exact far2 hc (by decide)
  · obtain ⟨c, hc⟩ := own_bk hv e; exact far2 hc (by decide)
  · have hb : Below w.heap.size w W' := ⟨hw.os.trans h.gr.os, hw.tape.trans h.gr.tape, hw.output.trans h.gr.output, Nat.le_trans h.gr.size hw.size, fun i hi => (hw.block i (Nat.lt_of_lt_of_le hi h.gr.size) (fun e => by have := hn i e; omega)).trans (h.gr.block i hi)⟩
    exact hb.setCell (p := ⟨Y.y, 6, none⟩) h.newy v
  · rcases hi with e | e | e | e | e | e | e
    · exact h.new i (.inl e)
    · exact h.new i (.inr (.inl e))
    · exact h.new i (.inr (.inr (.inl e)))
    · exact h.new i (.inr (.inr (.inr (.inl e))))
    · exact h.new i (.inr (.inr (.inr (.inr (.inl e)))))
    · exact Nat.le_trans hbase (World.ownsRow.lt hv i e).1
    · exact h.new i (.inr (.inr (.inr (.inr (.inr (.inr e))))))
/-- All is made. -/
theorem NwY.ey {init r7 : List Int} (h : NwY w base k Y init (newM k init r7).cs k.n W) (hk : OkLk k) (hi : init.length = tot k.zs) (hiu : U32s init) (hru : U32s r7) : Ey W Y k (newM k init r7) := by
  refine ⟨h.ptr, h.code, h.cells, h.words, h.pool, ⟨_, _, _, same_new k.n k.each hk.n64 hk.each⟩, own_zero h.cores, hk, ⟨hiu, hi, fun t ht => ⟨rfl, ?_⟩⟩⟩
  intro x hx
  simp only [newM, List.mem_cons, List.not_mem_nil, or_false] at hx
  have := hru.at_ t
  omega
end
end Go.Proofs.YtpinpipjlongaaaGreat
