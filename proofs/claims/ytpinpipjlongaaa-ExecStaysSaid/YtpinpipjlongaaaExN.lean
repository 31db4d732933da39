/- Layer 10 (exec): New, of a right spec. -/
import Derived.Test.YtpinpipjlongaaaExG
import Derived.Test.YtpinpipjlongaaaAsmS
import Derived.Test.YtpinpipjlongaaaCopy
import Derived.Test.YtpinpipjlongaaaPool
namespace Go.Proofs.Ytpinpipjlongaaa
set_option maxRecDepth 100000
open Go.ChangeShapes Go.WideShapes Go.ChangeAt Go.RowKit
set_option linter.unusedVariables false

/-- The value v is a spec. -/
def Sv (w : World) (v : Value) (c : Prg) (zs init r7 : List Int) (each : Int) : Prop :=
  ∃ aL cL aS cS aI cI aR cR, v = .agg #[.slice aL c.l.length cL, .int .i64 c.lo, .int .i64 c.un, .slice aS zs.length cS, .slice aI init.length cI, .int .i64 each, .slice aR r7.length cR] ∧
    Pv w (.agg #[.slice aL c.l.length cL, .int .i64 c.lo, .int .i64 c.un]) c ∧ Given .i64 w aS zs ∧ Given .u32 w aI init ∧ Given .u32 w aR r7 ∧ zs.length ≤ maxLen ∧ init.length ≤ maxLen ∧ r7.length ≤ maxLen
theorem Given.below {k : IntKind} {w w' : World} {a : Option Addr} {xs : List Int} (h : Given k w a xs) (hb : Below w.heap.size w w') : Given k w' a xs := h.grown (grown_of_below hb)
theorem Sv.below {w w' : World} {v : Value} {c : Prg} {zs init r7 : List Int} {each : Int} (h : Sv w v c zs init r7 each) (hb : Below w.heap.size w w') : Sv w' v c zs init r7 each := by
  obtain ⟨aL, cL, aS, cS, aI, cI, aR, cR, e, h1, h2, h3, h4, h5⟩ := h
  exact ⟨aL, cL, aS, cS, aI, cI, aR, cR, e, h1.below hb, h2.below hb, h3.below hb, h4.below hb, h5⟩

/-- The cores while New lays the last registers: k of them are laid. -/
def csj (r7 : List Int) (j : Nat) : Nat → Cor := fun t => if t < j then ⟨[0, 0, 0, 0, 0, 0, 0, nth r7 t], 0⟩ else ⟨[0, 0, 0, 0, 0, 0, 0, 0], 0⟩
theorem csj_0 (r7 : List Int) : csj r7 0 = fun _ => ⟨[0, 0, 0, 0, 0, 0, 0, 0], 0⟩ := by funext t; simp [csj]
theorem csj_next (r7 : List Int) (j : Nat) : updN (csj r7 j) j ⟨(csj r7 j j).xs.set 7 (nth r7 j), (csj r7 j j).pc⟩ = csj r7 (j + 1) := by
  funext t
  unfold updN csj
  by_cases e : t = j
  · subst e; simp
  · by_cases h : t < j
    · simp [e, h, show t < j + 1 by omega]
    · simp [e, h, show ¬ t < j + 1 by omega]
theorem csj_all {k : Lk} {init r7 : List Int} (h : r7.length = k.n) : csj r7 k.n = (newM k init r7).cs := by
  funext t
  unfold csj newM
  by_cases e : t < k.n
  · simp [e]
  · have : nth r7 t = 0 := by unfold nth; rw [List.getD_eq_getElem?_getD, List.getElem?_eq_none (by omega)]; rfl
    simp [e, this]
theorem coresC_set {cs : Nat → Cor} {n : Nat} (h : ∀ t, t < n → Eight (cs t).xs) {t j : Nat} (ht : t < n) (hj : j < 8) {v : Int} (hv : 0 ≤ v ∧ v < 4294967296) : (coresC cs n).set (t * 9 + j) (.int .u32 v) = coresC (updN cs t ⟨(cs t).xs.set j v, (cs t).pc⟩) n := by
  have hc : Eight ((⟨(cs t).xs.set j v, (cs t).pc⟩ : Cor).xs) := (h t ht).put j hv
  have h2 := updN_eight (n := n) h hc t
  have hl := coresC_len h
  have hl2 := coresC_len h2
  apply List.ext_getElem?
  intro i
  by_cases hi : i < n * 9
  · obtain ⟨s, q, hs, hq, rfl⟩ : ∃ s q, s < n ∧ q < 9 ∧ i = s * 9 + q := ⟨i / 9, i % 9, by omega, by omega, by omega⟩
    rw [List.getElem?_set, coresC_at h2 hs hq, coresC_at h hs hq]
    by_cases e : s = t
    · subst e
      rw [updN_same]
      by_cases eq : q = j
      · subst eq
        rw [if_pos rfl, if_pos (by omega)]
        have h8 := (h s hs).1
        simp only
        unfold corC
        rw [List.getElem?_append_left (by simp; omega), List.getElem?_map, List.getElem?_set_self (by omega)]
        rfl
      · rw [if_neg (by omega)]
        simp only
        unfold corC
        rw [List.getElem?_append, List.getElem?_append]
        simp only [List.length_map, List.length_set]
        split
        · rw [List.getElem?_map, List.getElem?_map, List.getElem?_set_ne (fun e => eq e.symm)]
        · rfl
    · rw [if_neg (by omega), updN_other e]
  · rw [List.getElem?_eq_none (by rw [List.length_set]; omega), List.getElem?_eq_none (by omega)]
theorem made_cores (n : Nat) : madeCells #[.int .u32 0, .int .u32 0, .int .u32 0, .int .u32 0, .int .u32 0, .int .u32 0, .int .u32 0, .int .u32 0, .int .i64 0] (n * 9) = (coresC (fun _ => ⟨[0, 0, 0, 0, 0, 0, 0, 0], 0⟩) n).toArray := by
  have h8 : ∀ t, t < n → Eight ((fun _ => ⟨[0, 0, 0, 0, 0, 0, 0, 0], 0⟩ : Nat → Cor) t).xs := fun _ _ => ⟨rfl, U32s.zeros 8⟩
  have hl := coresC_len h8
  apply Array.ext_getElem?
  intro i
  have hr : (coresC (fun _ => ⟨[0, 0, 0, 0, 0, 0, 0, 0], 0⟩) n).toArray[i]? = (coresC (fun _ => ⟨[0, 0, 0, 0, 0, 0, 0, 0], 0⟩) n)[i]? := List.getElem?_toArray
  rw [hr]
  clear hr
  by_cases hi : i < n * 9
  · obtain ⟨s, q, hs, hq, rfl⟩ : ∃ s q, s < n ∧ q < 9 ∧ i = s * 9 + q := ⟨i / 9, i % 9, by omega, by omega, by omega⟩
    rw [coresC_at h8 hs hq]
    have e3 : (s * 9 + q) % 9 = q := by omega
    have hq' : q = 0 ∨ q = 1 ∨ q = 2 ∨ q = 3 ∨ q = 4 ∨ q = 5 ∨ q = 6 ∨ q = 7 ∨ q = 8 := by omega
    have hsz : s * 9 + q < (madeCells #[.int .u32 0, .int .u32 0, .int .u32 0, .int .u32 0, .int .u32 0, .int .u32 0, .int .u32 0, .int .u32 0, .int .i64 0] (n * 9)).size := by rw [size_madeCells]; exact hi
    rw [Array.getElem?_eq_getElem hsz]
    simp only [madeCells, Array.getElem_map, Array.getElem_range]
    simp only [List.size_toArray, List.length_cons, List.length_nil, Nat.zero_add, Nat.reduceAdd, e3]
    rcases hq' with rfl | rfl | rfl | rfl | rfl | rfl | rfl | rfl | rfl <;> rfl
  · rw [Array.getElem?_eq_none (by rw [size_madeCells]; omega), List.getElem?_eq_none (by omega)]
section
variable {w w' : World} {X : XP} {k : Lk} {m : Mc}
/-- One register of one thread is another. -/
theorem Ex.setReg (h : Ex w X k m) {t j : Nat} (ht : t < k.n) (hj : j < 8) {v : Int} (hv : 0 ≤ v ∧ v < 4294967296) : Ex (w.setCell ⟨X.kb, t * 9 + j, none⟩ (.int .u32 v)) X k { m with cs := updN m.cs t ⟨(m.cs t).xs.set j v, (m.cs t).pc⟩ } := by
  have hW : Within w (w.setCell ⟨X.kb, t * 9 + j, none⟩ (.int .u32 v)) (fun i => i = X.kb) := (Within.refl _ _).put _ _ _ (.inl rfl)
  obtain ⟨fr, os, cn, hp, hs⟩ := h.pool
  have hb := h.cores.put (t * 9 + j) (.int .u32 v)
  rw [List.setIfInBounds_toArray, coresC_set h.mc.cs ht hj hv] at hb
  refine ⟨h.ptr.within hW (Bk.unlike h.ptr h.cores (by decide)), own_within h.code hW (fun g e e2 => ?_), hb, h.mem.within hW (Bk.unlike h.mem.ptr h.cores (by decide)) (Bk.unlike h.mem.cel.ptr h.cores (by decide)) (Bk.unlike h.mem.cel.row h.cores (by decide)) (Bk.unlike h.mem.row h.cores (by decide)),
    ⟨fr, os, cn, hp.kept hW (Bk.unlike hp.ptr h.cores (by decide)) (Bk.unlike hp.row h.cores (by decide)) (fun i hi e => hp.not_has h.cores (by decide) (by decide) (e ▸ hi)), hs⟩, h.lk, ⟨h.mc.ws, h.mc.len, updN_eight h.mc.cs ((h.mc.cs t ht).put j hv) t⟩⟩
  obtain ⟨cs', hcs⟩ := own_bk h.code e
  exact Bk.unlike hcs h.cores (by decide) e2
/-- What New returns: a lock at work, all of it new. -/
def NewX (w : World) (k : Lk) (init r7 : List Int) (e : Ending) (w' : World) : Prop :=
  ∃ X, e = .returned (.tuple #[.pointer (some ⟨X.x, 0, none⟩), .int .i64 0]) ∧ Ex w' X k (newM k init r7) ∧ Below w.heap.size w w' ∧ ∀ i, X.Own k.n i → w.heap.size ≤ i
theorem coreInfo : (Try.prog.info? 52).map (fun i => (i.zero, i.size, i.bytes)) = some (some (.agg #[.int .u32 0, .int .u32 0, .int .u32 0, .int .u32 0, .int .u32 0, .int .u32 0, .int .u32 0, .int .u32 0, .int .i64 0]), 9, 40) := by kernel_rfl

/-- What the parts of a new lock leave: the program's copy; the cores' row; the struct's value; its block. -/
def NwA (w : World) (k : Lk) (v : Value) (W : World) : Prop := ∃ sl, v = .agg #[sl, .int .i64 k.lo, .int .i64 k.un] ∧ W.ownsRow w.heap.size 55 8 sl k.l.length (progC k.l)
def NwB (w : World) (k : Lk) (v : Value) (W : World) : Prop := ∃ b, v = .slice (some ⟨b, 0, none⟩) k.n k.n ∧ w.heap.size ≤ b ∧ Bk W b 52 (coresC (fun _ => ⟨[0, 0, 0, 0, 0, 0, 0, 0], 0⟩) k.n).toArray
def NwC (w : World) (k : Lk) (p pp : Nat) (v : Value) (W : World) : Prop := ∃ sl b, v = .agg #[sl, .int .i64 k.lo, .int .i64 k.un, .pointer (some ⟨p, 0, none⟩), .pointer (some ⟨pp, 0, none⟩), .slice (some ⟨b, 0, none⟩) k.n k.n] ∧ W.ownsRow w.heap.size 55 8 sl k.l.length (progC k.l) ∧ w.heap.size ≤ b ∧ Bk W b 52 (coresC (fun _ => ⟨[0, 0, 0, 0, 0, 0, 0, 0], 0⟩) k.n).toArray
def NwD (w : World) (k : Lk) (p pp : Nat) (v : Value) (W : World) : Prop := ∃ x sl b, v = .pointer (some ⟨x, 0, none⟩) ∧ w.heap.size ≤ x ∧ Bk W x 72 #[sl, .int .i64 k.lo, .int .i64 k.un, .pointer (some ⟨p, 0, none⟩), .pointer (some ⟨pp, 0, none⟩), .slice (some ⟨b, 0, none⟩) k.n k.n] ∧ W.ownsRow w.heap.size 55 8 sl k.l.length (progC k.l) ∧ w.heap.size ≤ b ∧ Bk W b 52 (coresC (fun _ => ⟨[0, 0, 0, 0, 0, 0, 0, 0], 0⟩) k.n).toArray
theorem own_below {W W' : World} {base n sz : Nat} {t : TypeId} {v : Value} {xs : List Value} (h : W.ownsRow base t sz v n xs) (hb : Below W.heap.size W W') : W'.ownsRow base t sz v n xs := own_within h (within_of_below hb) (by simp)
theorem NwA.below {W W' : World} {v : Value} (h : NwA w k v W) (hb : Below W.heap.size W W') : NwA w k v W' := by
  obtain ⟨sl, e, h⟩ := h
  exact ⟨sl, e, own_below h hb⟩
theorem NwB.below {W W' : World} {v : Value} (h : NwB w k v W) (hb : Below W.heap.size W W') : NwB w k v W' := by
  obtain ⟨b, e, h1, h2⟩ := h
  exact ⟨b, e, h1, (hb.block _ h2.lt).trans h2⟩
theorem NwC.below {W W' : World} {p pp : Nat} {v : Value} (h : NwC w k p pp v W) (hb : Below W.heap.size W W') : NwC w k p pp v W' := by
  obtain ⟨sl, b, e, h1, h2, h3⟩ := h
  exact ⟨sl, b, e, own_below h1 hb, h2, (hb.block _ h3.lt).trans h3⟩
theorem NwD.below {W W' : World} {p pp : Nat} {v : Value} (h : NwD w k p pp v W) (hb : Below W.heap.size W W') : NwD w k p pp v W' := by
  obtain ⟨x, sl, b, e, h1, h2, h3, h4, h5⟩ := h
  exact ⟨x, sl, b, e, h1, (hb.block _ h2.lt).trans h2, own_below h3 hb, h4, (hb.block _ h5.lt).trans h5⟩

set_option maxHeartbeats 4000000 in
theorem xNew {v : Value} {init r7 : List Int} (hk : OkLk k) (hv : Sv w v ⟨k.l, k.lo, k.un⟩ k.zs init r7 k.each) (hi : init.length = tot k.zs) (hiu : U32s init) (hr : r7.length = k.n) (hru : U32s r7) :
    Calls Try.prog 8 #[v, .int .i64 k.n] w (NewX w k init r7) := by
  have HI := Lib.hid (And.intro hi (And.intro hiu (And.intro hr hru)))
  clear hi hiu hr hru
  have hn1 := hk.n1
  have hn64 := hk.n64
  have hl64 := hk.parts.2.1
  obtain ⟨aL, cL, aS, cS, aI, cI, aR, cR, rfl, hpv, hgS, hgI, hgR, hm1, hm2, hm3⟩ := hv
  simp only at hpv ⊢
  obtain ⟨i0, hi0, hz0, hz1, hz2⟩ := info_parts coreInfo
  have hmk := fun W : World => run_make (P := Try.prog) W 70 52 i0 _ Try.underlying70 hi0 hz0 .i64 .i64 k.n k.n (by omega) (by omega) (by rw [hz2]; omega) (by omega)
  rw [hz1] at hmk
  clear hi0 hz0 hz1 hz2
  have HMK := Lib.hid hmk
  clear hmk
  have q0 := Bk.made w 28 #[.slice aL k.l.length cL, .int .i64 k.lo, .int .i64 k.un, .slice aS k.zs.length cS, .slice aI init.length cI, .int .i64 k.each, .slice aR r7.length cR]
  have b0 : Below w.heap.size w (w.alloc (.cells #[.slice aL k.l.length cL, .int .i64 k.lo, .int .i64 k.un, .slice aS k.zs.length cS, .slice aI init.length cI, .int .i64 k.each, .slice aR r7.length cR] 28)) := (Below.refl _ _).alloc (Nat.le_refl _) _
  go_enter Try.func8, Try.ntmps8
  go_upto_region 1 with fail
  generalize w.alloc (.cells #[.slice aL k.l.length cL, .int .i64 k.lo, .int .i64 k.un, .slice aS k.zs.length cS, .slice aI init.length cI, .int .i64 k.each, .slice aR r7.length cR] 28) = y at *
  have hR := cAsmRightK ⟨k.l, k.lo, k.un⟩ _ y (hpv.below b0) hk.k32
  rw [hk.code] at hR
  obtain ⟨y0, y1, y2, y3, y4, y5, y6⟩ : y.cell? ⟨w.heap.size, 0, none⟩ = some (.slice aL k.l.length cL) ∧ y.cell? ⟨w.heap.size, 1, none⟩ = some (.int .i64 k.lo) ∧ y.cell? ⟨w.heap.size, 2, none⟩ = some (.int .i64 k.un) ∧ y.cell? ⟨w.heap.size, 3, none⟩ = some (.slice aS k.zs.length cS) ∧ y.cell? ⟨w.heap.size, 4, none⟩ = some (.slice aI init.length cI) ∧ y.cell? ⟨w.heap.size, 5, none⟩ = some (.int .i64 k.each) ∧ y.cell? ⟨w.heap.size, 6, none⟩ = some (.slice aR r7.length cR) := ⟨q0.cell 0, q0.cell 1, q0.cell 2, q0.cell 3, q0.cell 4, q0.cell 5, q0.cell 6⟩
  go_wp2_with fail
  refine hR.mono ?_
  rintro e z1 ⟨rfl, hz⟩
  have q1 := (hz.block _ q0.lt).trans q0
  have b1 := b0.trans (hz.mono b0.size)
  clear q0 b0 hz hR y0 y1 y2 y3 y4 y5 y6
  have hlen : ((r7.length : Int) != (k.n : Int)) = false := by rw [HI.out.2.2.1]; simp
  obtain ⟨y0, y1, y2, y3, y4, y5, y6⟩ : z1.cell? ⟨w.heap.size, 0, none⟩ = some (.slice aL k.l.length cL) ∧ z1.cell? ⟨w.heap.size, 1, none⟩ = some (.int .i64 k.lo) ∧ z1.cell? ⟨w.heap.size, 2, none⟩ = some (.int .i64 k.un) ∧ z1.cell? ⟨w.heap.size, 3, none⟩ = some (.slice aS k.zs.length cS) ∧ z1.cell? ⟨w.heap.size, 4, none⟩ = some (.slice aI init.length cI) ∧ z1.cell? ⟨w.heap.size, 5, none⟩ = some (.int .i64 k.each) ∧ z1.cell? ⟨w.heap.size, 6, none⟩ = some (.slice aR r7.length cR) := ⟨Bk.cell q1 0, Bk.cell q1 1, Bk.cell q1 2, Bk.cell q1 3, Bk.cell q1 4, Bk.cell q1 5, Bk.cell q1 6⟩
  have hM := mNew (hgS.below b1) (hgI.below b1) hk.zs HI.out.1.symm (by rw [HI.out.1]; exact hk.few) HI.out.2.1 cS cI
  go_wp2_with fail
  refine hM.mono ?_
  rintro e z2 ⟨p, q, g, s, rfl, hMm, hbnd, hgr⟩
  have hz := below_of_grown hgr
  have q2 := (hz.block _ (Bk.lt q1)).trans q1
  have b2 := b1.trans (hz.mono b1.size)
  clear hM hgr y0 y1 y2 y3 y4 y5 y6 hz q1 hlen
  have hbw := b1.size
  obtain ⟨y0, y1, y2, y3, y4, y5, y6⟩ : z2.cell? ⟨w.heap.size, 0, none⟩ = some (.slice aL k.l.length cL) ∧ z2.cell? ⟨w.heap.size, 1, none⟩ = some (.int .i64 k.lo) ∧ z2.cell? ⟨w.heap.size, 2, none⟩ = some (.int .i64 k.un) ∧ z2.cell? ⟨w.heap.size, 3, none⟩ = some (.slice aS k.zs.length cS) ∧ z2.cell? ⟨w.heap.size, 4, none⟩ = some (.slice aI init.length cI) ∧ z2.cell? ⟨w.heap.size, 5, none⟩ = some (.int .i64 k.each) ∧ z2.cell? ⟨w.heap.size, 6, none⟩ = some (.slice aR r7.length cR) := ⟨Bk.cell q2 0, Bk.cell q2 1, Bk.cell q2 2, Bk.cell q2 3, Bk.cell q2 4, Bk.cell q2 5, Bk.cell q2 6⟩
  have hP := plNew k.n k.each hn1 hn64 hk.each z2
  go_wp2_with fail
  refine hP.mono ?_
  rintro e z3 ⟨pp, M, rfl, hPl, hgr, hMn, hpn, hgn⟩
  have hz := below_of_grown hgr
  have q3 := (hz.block _ (Bk.lt q2)).trans q2
  have b3 := b2.trans (hz.mono b2.size)
  replace hMm := hMm.grown hgr
  clear hP hgr y0 y1 y2 y3 y4 y5 y6 hz q2
  have hbw2 := b2.size
  have hNW : Hid ((w.heap.size ≤ p ∧ w.heap.size ≤ q ∧ w.heap.size ≤ g ∧ w.heap.size ≤ s) ∧ w.heap.size ≤ pp ∧ w.heap.size ≤ M.g ∧ ∀ i, M.Has k.n i → w.heap.size ≤ i) := Lib.hid ⟨by omega, by omega, by omega, fun i hi => Nat.le_trans hbw2 (hMn i hi)⟩
  clear hbnd hMn hpn hgn hbw hbw2 b1 b2
  have hPA : PoolAt z3 pp k.n k.each M (newN k.n k.each) := ⟨_, _, _, hPl, same_new k.n k.each hn64 hk.each⟩
  clear hPl
  have HCP := Lib.hid (fun W (hW : Below w.heap.size w W) => cCopy ⟨k.l, k.lo, k.un⟩ _ W (hpv.below hW) (by show k.l.length ≤ 1000; omega))
  go_upto_region 9 with fail
  refine wp_region_flow [] (fun _ W => Bk W w.heap.size 28 #[.slice aL k.l.length cL, .int .i64 k.lo, .int .i64 k.un, .slice aS k.zs.length cS, .slice aI init.length cI, .int .i64 k.each, .slice aR r7.length cR] ∧ Below w.heap.size w W ∧ Below z3.heap.size z3 W) (fun _ _ _ => False) (fun vs => { tmps := #[.agg #[.slice aL k.l.length cL, .int .i64 k.lo, .int .i64 k.un, .slice aS k.zs.length cS, .slice aI init.length cI, .int .i64 (k.each : Int), .slice aR r7.length cR], .int .i64 (k.n : Int), .pointer (some ⟨w.heap.size, 0, none⟩), undef, .pointer none, .int .i64 0, .pointer (some ⟨p, 0, none⟩), .int .i64 0, .pointer (some ⟨pp, 0, none⟩), vs 9, undef, undef, .pointer (some ⟨w.heap.size, 0, none⟩), .agg #[.slice aL k.l.length cL, .int .i64 k.lo, .int .i64 k.un], .bool true, .bool false, .bool false, .pointer (some ⟨w.heap.size, 6, none⟩), .slice aR r7.length cR, .int .i64 (r7.length : Int), .int .i64 (k.n : Int), .bool false, .bool false, .tuple #[.pointer (some ⟨p, 0, none⟩), .int .i64 0], .pointer (some ⟨w.heap.size, 3, none⟩), .slice aS k.zs.length cS, .pointer (some ⟨w.heap.size, 4, none⟩), .slice aI init.length cI, .tuple #[.pointer (some ⟨p, 0, none⟩), .int .i64 0], .pointer (some ⟨p, 0, none⟩), .int .i64 0, .int .i64 0, .bool false, .tuple #[.pointer (some ⟨pp, 0, none⟩), .int .i64 0], .int .i64 (k.n : Int), .pointer (some ⟨w.heap.size, 5, none⟩), .int .i64 (k.each : Int), .tuple #[.pointer (some ⟨pp, 0, none⟩), .int .i64 0], .pointer (some ⟨pp, 0, none⟩), .int .i64 0, .int .i64 0, .bool false, vs 0, vs 1, vs 2, vs 3, vs 4, vs 5, vs 6, vs 7, vs 8, undef, undef, undef, undef, undef, undef, undef, undef, undef, undef, undef, undef, undef, undef, undef, undef, undef, undef, undef], defers := [] }) (mixT [(2, (NwA w k)), (6, (NwB w k)), (7, (NwC w k p pp)), (8, (NwD w k p pp)), (9, (NwD w k p pp))] [.pointer (some ⟨w.heap.size, 0, none⟩), .agg #[.slice aL k.l.length cL, .int .i64 k.lo, .int .i64 k.un], undef, .pointer (some ⟨p, 0, none⟩), .pointer (some ⟨pp, 0, none⟩), .int .i64 (k.n : Int), undef, undef, undef, undef]) ?ghm ?ghr ?ghc ?ghnd ?ghlit ?gh0 ?ghW ?ghF ?ghS ?gops ?gdone
  case ghm => kernel_rfl
  case ghr => kernel_rfl
  case ghc => kernel_rfl
  case ghnd => decide
  case ghlit => intro vs; rfl
  case gh0 => exact ⟨q3, b3, Below.refl _ _⟩
  case ghW => exact fun kk W W2 h hb => ⟨(hb.block _ (Bk.lt h.1)).trans h.1, h.2.1.trans (hb.mono h.2.1.size), h.2.2.trans (hb.mono h.2.2.size)⟩
  case ghF => exact mixT_stable (by
    intro p0 hp
    simp only [List.mem_cons, List.not_mem_nil, or_false] at hp
    rcases hp with rfl | rfl | rfl | rfl | rfl
    · exact fun v W W2 h hb => NwA.below h hb
    · exact fun v W W2 h hb => NwB.below h hb
    · exact fun v W W2 h hb => NwC.below h hb
    · exact fun v W W2 h hb => NwD.below h hb
    · exact fun v W W2 h hb => NwD.below h hb)
  case ghS => exact fun kk W W2 _ hs i v h => hs.elim
  case gops =>
    refine ⟨?_, ?_, ?_, ?_, ?_, ?_, ?_, ?_, ?_, ?_, trivial⟩
    · intro vs W kk h1 h2 hW hd
      obtain rfl : kk = 0 := Nat.le_zero.1 h2
      refine leaves_free rfl ?_
      clear hd
      go_simp
      exact ⟨rfl, Below.refl _ _⟩
    · intro vs W kk h1 h2 hW hd
      obtain rfl : kk = 0 := Nat.le_zero.1 h2
      refine leaves_free rfl ?_
      have e0 : vs 0 = .pointer (some ⟨w.heap.size, 0, none⟩) := hd 0 (by decide)
      have hq : Bk W w.heap.size 28 #[.slice aL k.l.length cL, .int .i64 k.lo, .int .i64 k.un, .slice aS k.zs.length cS, .slice aI init.length cI, .int .i64 k.each, .slice aR r7.length cR] := hW.1; obtain ⟨y0, y1, y2⟩ : W.cell? ⟨w.heap.size, 0, none⟩ = some (.slice aL k.l.length cL) ∧ W.cell? ⟨w.heap.size, 1, none⟩ = some (.int .i64 k.lo) ∧ W.cell? ⟨w.heap.size, 2, none⟩ = some (.int .i64 k.un) := ⟨hq.cell 0, hq.cell 1, hq.cell 2⟩; clear hq
      clear hd
      go_simp
      exact ⟨rfl, Below.refl _ _⟩
    · intro vs W kk h1 h2 hW hd
      obtain rfl : kk = 0 := Nat.le_zero.1 h2
      refine leaves_free rfl ?_
      have e1 : vs 1 = .agg #[.slice aL k.l.length cL, .int .i64 k.lo, .int .i64 k.un] := hd 1 (by decide)
      have HS := Lib.hid (HCP.out W hW.2.1)
      have hsz := hW.2.1.size
      clear hd
      go_simp
      refine HS.out.mono ?_
      rintro e zz ⟨v9, he, ⟨sl, e9, ho⟩, hb⟩
      exact ⟨v9, he, ⟨sl, e9, World.ownsRow.mono (base' := w.heap.size) ho hsz⟩, hb⟩
    · intro vs W kk h1 h2 hW hd
      obtain rfl : kk = 0 := Nat.le_zero.1 h2
      refine leaves_free rfl ?_
      clear hd
      go_simp
      exact ⟨rfl, Below.refl _ _⟩
    · intro vs W kk h1 h2 hW hd
      obtain rfl : kk = 0 := Nat.le_zero.1 h2
      refine leaves_free rfl ?_
      clear hd
      go_simp
      exact ⟨rfl, Below.refl _ _⟩
    · intro vs W kk h1 h2 hW hd
      obtain rfl : kk = 0 := Nat.le_zero.1 h2
      refine leaves_free rfl ?_
      clear hd
      go_simp
      exact ⟨rfl, Below.refl _ _⟩
    · intro vs W kk h1 h2 hW hd
      obtain rfl : kk = 0 := Nat.le_zero.1 h2
      refine leaves_free rfl ?_
      have e5 : vs 5 = .int .i64 (k.n : Int) := hd 5 (by decide)
      have hmk := HMK.out W
      have hsz := hW.2.1.size
      clear hd
      go_simp
      exact ⟨⟨W.heap.size, rfl, hsz, by rw [← made_cores]; exact Bk.made _ _ _⟩, (Below.refl _ _).alloc (Nat.le_refl _) _⟩
    · intro vs W kk h1 h2 hW hd
      obtain rfl : kk = 0 := Nat.le_zero.1 h2
      refine leaves_free rfl ?_
      have e3 : vs 3 = .pointer (some ⟨p, 0, none⟩) := hd 3 (by decide)
      have e4 : vs 4 = .pointer (some ⟨pp, 0, none⟩) := hd 4 (by decide)
      obtain ⟨sl, e2, ho⟩ : NwA w k (vs 2) W := hd 2 (by decide)
      obtain ⟨kb, e6, hkb, hk6⟩ : NwB w k (vs 6) W := hd 6 (by decide)
      clear hd
      go_simp
      exact ⟨⟨sl, kb, rfl, ho, hkb, hk6⟩, Below.refl _ _⟩
    · intro vs W kk h1 h2 hW hd
      obtain rfl : kk = 0 := Nat.le_zero.1 h2
      refine leaves_free rfl ?_
      obtain ⟨sl, kb, e7, ho, hkb, hk6⟩ : NwC w k p pp (vs 7) W := hd 7 (by decide)
      have hsz := hW.2.1.size
      clear hd
      go_simp
      exact ⟨⟨W.heap.size, sl, kb, rfl, hsz, Bk.made _ _ _, own_within ho ((Within.refl _ (fun _ => False)).alloc _) (by simp), hkb, Bk.alloc hk6 _⟩, (Below.refl _ _).alloc (Nat.le_refl _) _⟩
    · intro vs W kk h1 h2 hW hd
      obtain rfl : kk = 0 := Nat.le_zero.1 h2
      refine leaves_free rfl ?_
      have h8 : NwD w k p pp (vs 8) W := hd 8 (by decide)
      clear hd
      go_simp
      exact ⟨h8, Below.refl _ _⟩
  case gdone =>
    intro vs W hW hf
    have f0 : vs 0 = .pointer (some ⟨w.heap.size, 0, none⟩) := hf 0 (by decide)
    have f1 : vs 1 = .agg #[.slice aL k.l.length cL, .int .i64 k.lo, .int .i64 k.un] := hf 1 (by decide)
    have f3 : vs 3 = .pointer (some ⟨p, 0, none⟩) := hf 3 (by decide)
    have f4 : vs 4 = .pointer (some ⟨pp, 0, none⟩) := hf 4 (by decide)
    have f5 : vs 5 = .int .i64 (k.n : Int) := hf 5 (by decide)
    simp only [f0, f1, f3, f4, f5]
    clear f0 f1 f3 f4 f5
    have h9 : NwD w k p pp (vs 9) W := hf 9 (by decide)
    obtain ⟨x, sl, kb, e9, hx, hBx, ho, hkb, hBk⟩ := h9
    simp only [e9]
    clear hf
    generalize vs 2 = w2 at *
    generalize vs 6 = w6 at *
    generalize vs 7 = w7 at *
    generalize vs 8 = w8 at *
    obtain ⟨hqW, hbW, hzW⟩ := hW
    obtain ⟨fr0, os0, cn0, hPl, hSm⟩ := hPA
    have hX : Ex W ⟨x, sl, kb, p, q, g, s, pp, M⟩ k { newM k init r7 with cs := csj r7 0 } := by
      refine ⟨hBx, World.ownsRow.mono (base' := 0) ho (Nat.zero_le _), ?_, hMm.grown (grown_of_below hzW), ⟨fr0, os0, cn0, hPl.grown (grown_of_below hzW), hSm⟩, hk, ⟨HI.out.2.1, HI.out.1, ?_⟩⟩
      · rw [csj_0]; exact hBk
      · intro t ht
        rw [csj_0]
        exact ⟨rfl, U32s.zeros 8⟩
    have hOwn : Hid (∀ i, XP.Own ⟨x, sl, kb, p, q, g, s, pp, M⟩ k.n i → w.heap.size ≤ i) := Lib.hid fun i hi => by
      obtain ⟨⟨n1, n2, n3, n4⟩, n5, n6, n7⟩ := hNW.out
      rcases hi with e | e | e | e | e | e | e | e | e | e
      · simp only at e; omega
      · exact (World.ownsRow.lt ho i e).1
      · simp only at e; omega
      · simp only at e; omega
      · simp only at e; omega
      · simp only at e; omega
      · simp only at e; omega
      · simp only at e; omega
      · simp only at e; omega
      · exact n7 i e
    have hqW6 : Hid (W.cell? ⟨w.heap.size, 6, none⟩ = some (.slice aR r7.length cR)) := Lib.hid (Bk.cell hqW 6)
    clear hBx ho hBk hMm hPl hSm hqW hzW q3 b3 hNW HCP HMK hx hkb
    have c5x : W.cell? ⟨w.heap.size, 6, none⟩ = some (.slice aR r7.length cR) := hqW6.out
    go_wp2
    go_loopw [54] (fun i wr => ∃ j : Nat, j ≤ k.n ∧ i = .int .i64 j ∧ Ex wr ⟨x, sl, kb, p, q, g, s, pp, M⟩ k { newM k init r7 with cs := csj r7 j } ∧ Below w.heap.size w wr) (fun i _ => k.n - (intOf i).toNat)
    case atStart => exact ⟨0, Nat.zero_le _, rfl, hX, hbW⟩
    case round =>
      clear hX hbW c5x
      obtain ⟨j, hj, rfl, hX, hbr⟩ := hrel
      by_cases hlt : j < k.n
      · have hji : (j : Int) < k.n := by omega
        have hrl : (j : Int) < r7.length := by rw [HI.out.2.2.1]; omega
        have hrl2 : j < r7.length := by rw [HI.out.2.2.1]; omega
        obtain ⟨b', off, rfl, hcell⟩ := (hgR.below hbr).here hrl2
        have hc5 : wr.cell? ⟨x, 5, none⟩ = some (.slice (some ⟨kb, 0, none⟩) k.n k.n) := hX.c5
        have hc7 : wr.cell? ⟨kb, j * 9 + 7, none⟩ = some (.int .u32 0) := (hX.core_at hlt (j := 7) (by omega)).trans (by unfold csj; simp [corC])
        have hz7 := hX.free
        have hst := hX.setReg hlt (j := 7) (by omega) (HI.out.2.2.2.at_ j)
        have HST : Hid (Ex (wr.setCell ⟨kb, j * 9 + 7, none⟩ (.int .u32 (nth r7 j))) ⟨x, sl, kb, p, q, g, s, pp, M⟩ k { newM k init r7 with cs := csj r7 (j + 1) }) := Lib.hid (by rw [← csj_next]; exact hst)
        have HBR := Lib.hid (hbr.setCell (p := ⟨kb, j * 9 + 7, none⟩) (hOwn.out kb (.inr (.inr (.inl rfl)))) (.int .u32 (nth r7 j)))
        clear hst hX hbr
        go_wp2
        go_roundw
        case rel => exact ⟨j + 1, by omega, by go_num, HST.out, HBR.out⟩
        case measure => simp [intOf]; omega
      · obtain rfl : j = k.n := by omega
        have hrl : ¬ (k.n : Int) < r7.length := by rw [HI.out.2.2.1]; omega
        rw [csj_all (init := init) HI.out.2.2.1] at hX
        go_wp2
        go_ret2
        exact ⟨_, rfl, hX, hbr, hOwn.out⟩
end
end Go.Proofs.Ytpinpipjlongaaa
