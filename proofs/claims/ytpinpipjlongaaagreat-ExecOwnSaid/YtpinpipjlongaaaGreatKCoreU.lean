/- CoreU. -/
import Derived.Test.YtpinpipjlongaaaGreatKInstW
import Derived.Deep.DeepCutAuto
import Derived.Deep.CutBlock
import Derived.Deep.LoopGhost
/- core.Run: how a core runs on. -/
namespace Go.Proofs.YtpinpipjlongaaaGreat
set_option maxRecDepth 100000
open Go.ChangeShapes Go.WideShapes Go.ChangeAt Go.RowKit
set_option linter.unusedVariables false

/-- Stands there an instruction of the memory? -/
def memAt (l : List Ins) (pc : Int) : Bool := decide (0 ≤ pc) && (match l[pc.toNat]? with
  | some i => memB i.op
  | none => false)
/-- A core that stops where it stands. -/
def stopL (l : List Ins) (xs : List Int) (pc : Int) (ms : List Int) : Out := ⟨xs, pc, ms, -1, if memAt l pc then 0 else 11⟩
theorem memAt_out {l : List Ins} {pc : Int} (h : pc < 0 ∨ l.length ≤ pc) : memAt l pc = false := by
  unfold memAt
  by_cases h0 : 0 ≤ pc
  · rw [List.getElem?_eq_none (by omega)]; simp
  · simp [h0]
theorem memAt_in {l : List Ins} {k : Nat} {i : Ins} (h : l[k]? = some i) : memAt l k = memB i.op := by
  unfold memAt
  rw [Int.toNat_natCast, h]
  simp
theorem runL_stop {self : Int} {l : List Ins} {n : Nat} {xs : List Int} {pc : Int} {ms : List Int} (h : (pc < 0 ∨ l.length ≤ pc) ∨ memAt l pc = true ∨ n = 0) : runL self l n xs pc ms = stopL l xs pc ms := by
  unfold stopL
  by_cases ho : pc < 0 ∨ l.length ≤ pc
  · rw [runL_out ho, memAt_out ho]; rfl
  · obtain ⟨k, rfl⟩ : ∃ k : Nat, pc = k := ⟨pc.toNat, by omega⟩
    have hk := List.getElem?_eq_getElem (l := l) (i := k) (by omega)
    generalize l[k] = i at hk
    rw [memAt_in hk] at h ⊢
    by_cases hm : memB i.op = true
    · rw [runL_mem hk hm, hm]; rfl
    · have hm' : memB i.op = false := by simpa using hm
      rcases h with h | h | rfl
      · exact absurd h ho
      · exact absurd h hm
      · rw [runL_zero hk hm', hm']; rfl
theorem one_done {xs : List Int} {pc : Int} {i : Ins} {self : Int} (h : i.op = 13) : oneR xs i self = xs ∧ oneP xs pc i = pc := by
  obtain ⟨op, d, s, t, u, a, k, pl⟩ := i
  simp only at h
  subst h
  exact ⟨rfl, rfl⟩
theorem cb_drew {w : World} {g : Nat} {xs : List Int} {pc : Int} (h : Cb w g xs pc) : Cb w.drew g xs pc := h
theorem lst_drew {w : World} {k : IntKind} {t : TypeId} {v : Value} {xs : List Int} (h : Lst k t w v xs) : Lst k t w.drew v xs := h
/-- What a run has in memory: the core in block g, the program in the next one, the result in the one behind it, the marks in a row of their own. -/
structure RunI (w : World) (a : Option Addr) (n ca : Nat) (lo un : Int) (m : Value) (xs : List Int) (pc : Int) (ms : List Int) (wr : World) : Prop where
  b : Below w.heap.size w wr
  c : Cb wr w.heap.size xs pc
  k : Bk wr (w.heap.size + 1) 24 #[.slice a n ca, .int .i64 lo, .int .i64 un]
  r : Cb wr (w.heap.size + 1 + 1) [0, 0, 0, 0, 0, 0, 0, 0] 0
  l : Lst .i64 3 wr m ms
section
variable {w : World} {a : Option Addr} {n ca : Nat} {lo un : Int} {m : Value} {xs : List Int} {pc : Int} {ms : List Int} {wr wx : World}
theorem lst_below (h : Lst .i64 3 wr m ms) (hb : Below wr.heap.size wr wx) : Lst .i64 3 wx m ms := h.within (within_of_below hb) (by simp)
theorem RunI.below (h : RunI w a n ca lo un m xs pc ms wr) (hb : Below wr.heap.size wr wx) : RunI w a n ca lo un m xs pc ms wx :=
  ⟨h.b.trans (hb.mono h.b.size), h.c.below hb, (hb.block _ h.k.lt).trans h.k, h.r.below hb, lst_below h.l hb⟩
theorem RunI.one {r0 r1 r2 r3 r4 r5 r6 r7 s0 s1 s2 s3 s4 s5 s6 s7 pc' : Int} (h : RunI w a n ca lo un m [r0, r1, r2, r3, r4, r5, r6, r7] pc ms wr) :
    RunI w a n ca lo un m [s0, s1, s2, s3, s4, s5, s6, s7] pc' ms (put9 wr w.heap.size (.int .u32 s0) (.int .u32 s1) (.int .u32 s2) (.int .u32 s3) (.int .u32 s4) (.int .u32 s5) (.int .u32 s6) (.int .u32 s7) (.int .i64 pc')) := by
  refine ⟨put9_below h.b (Nat.le_refl _) _ _ _ _ _ _ _ _ _, put9_bk h.c _ _ _ _ _ _ _ _ _, put9_off h.k (by omega) _ _ _ _ _ _ _ _ _, put9_off h.r (by omega) _ _ _ _ _ _ _ _ _, ?_⟩
  have hW : Within wr (put9 wr w.heap.size (.int .u32 s0) (.int .u32 s1) (.int .u32 s2) (.int .u32 s3) (.int .u32 s4) (.int .u32 s5) (.int .u32 s6) (.int .u32 s7) (.int .i64 pc')) (fun b => b = w.heap.size) := by
    unfold put9
    exact (((((((((Within.refl wr (fun b => b = w.heap.size)).put _ 0 _ (.inl rfl)).put _ 1 _ (.inl rfl)).put _ 2 _ (.inl rfl)).put _ 3 _ (.inl rfl)).put _ 4 _ (.inl rfl)).put _ 5 _ (.inl rfl)).put _ 6 _ (.inl rfl)).put _ 7 _ (.inl rfl)).put _ 8 _ (.inl rfl)
  refine h.l.within hW fun g e e2 => ?_
  obtain ⟨cs, hcs⟩ := h.l.bk e
  exact Bk.unlike hcs h.c (by decide) e2
theorem RunI.app {m' : Value} {ms' : List Int} (h : RunI w a n ca lo un m xs pc ms wr) (hl : Lst .i64 3 wx m' ms') (hg : wr.grownBy wx m.ownBlock) (hw : ∀ g, m.ownBlock = some g → w.heap.size ≤ g) : RunI w a n ca lo un m' xs pc ms' wx := by
  have un_ : ∀ {g : Nat} {t : TypeId} {cs : Array Value}, t ≠ 3 → Bk wr g t cs → Bk wx g t cs := fun ht hk => hk.grown hg fun e => by
    obtain ⟨cs, hcs⟩ := h.l.bk e.symm
    exact Bk.unlike hcs hk (fun e => ht e.symm) rfl
  refine ⟨h.b.trans ⟨hg.os, hg.tape, hg.output, hg.size, fun i hi => hg.block i (Nat.lt_of_lt_of_le hi h.b.size) fun e => ?_⟩, un_ (by decide) h.c, un_ (by decide) h.k, un_ (by decide) h.r, hl⟩
  have := hw i e.symm
  omega
theorem RunI.ret {r0 r1 r2 r3 r4 r5 r6 r7 pc' : Int} (h : RunI w a n ca lo un m xs pc ms wr) :
    Lst .i64 3 (put9 wr (w.heap.size + 1 + 1) (.int .u32 r0) (.int .u32 r1) (.int .u32 r2) (.int .u32 r3) (.int .u32 r4) (.int .u32 r5) (.int .u32 r6) (.int .u32 r7) (.int .i64 pc')) m ms ∧ Below w.heap.size w (put9 wr (w.heap.size + 1 + 1) (.int .u32 r0) (.int .u32 r1) (.int .u32 r2) (.int .u32 r3) (.int .u32 r4) (.int .u32 r5) (.int .u32 r6) (.int .u32 r7) (.int .i64 pc')) ∧ Cb (put9 wr (w.heap.size + 1 + 1) (.int .u32 r0) (.int .u32 r1) (.int .u32 r2) (.int .u32 r3) (.int .u32 r4) (.int .u32 r5) (.int .u32 r6) (.int .u32 r7) (.int .i64 pc')) (w.heap.size + 1 + 1) [r0, r1, r2, r3, r4, r5, r6, r7] pc' := by
  have hW : Within wr (put9 wr (w.heap.size + 1 + 1) (.int .u32 r0) (.int .u32 r1) (.int .u32 r2) (.int .u32 r3) (.int .u32 r4) (.int .u32 r5) (.int .u32 r6) (.int .u32 r7) (.int .i64 pc')) (fun b => b = w.heap.size + 1 + 1) := by
    unfold put9
    exact (((((((((Within.refl wr (fun b => b = w.heap.size + 1 + 1)).put _ 0 _ (.inl rfl)).put _ 1 _ (.inl rfl)).put _ 2 _ (.inl rfl)).put _ 3 _ (.inl rfl)).put _ 4 _ (.inl rfl)).put _ 5 _ (.inl rfl)).put _ 6 _ (.inl rfl)).put _ 7 _ (.inl rfl)).put _ 8 _ (.inl rfl)
  refine ⟨h.l.within hW fun g e e2 => ?_, put9_below h.b (by omega) _ _ _ _ _ _ _ _ _, put9_bk h.r _ _ _ _ _ _ _ _ _⟩
  obtain ⟨cs, hcs⟩ := h.l.bk e
  exact Bk.unlike hcs h.r (by decide) e2
end

/-- What a run returns. -/
def Ran (w : World) (R : Out) (e : Ending) (w' : World) : Prop := ∃ m, e = .returned (.tuple #[cv R.xs R.pc, m, .int .i64 R.done, .int .i64 R.e]) ∧ Lst .i64 3 w' m R.ms ∧ Below w.heap.size w w'

set_option maxHeartbeats 4000000 in
set_option maxRecDepth 100000 in
theorem cRun (c : Prg) (v : Value) (xs : List Int) (pc : Int) (self : Int) (w : World) (hv : Pv w v c) (hl : c.l.length ≤ 64) (hi : ∀ i ∈ c.l, OkI i) (hx : Eight xs) (h0 : 0 ≤ self) (h1 : self < 4294967296) :
    Calls Tryz.prog 31 #[cv xs pc, v, .int .i64 self] w (Ran w (runL self c.l 256 xs pc [])) := by
  obtain ⟨a, ca, rfl, hc1, hc2, hcn, ha⟩ := hv
  obtain ⟨RR, hRR⟩ : ∃ R, R = runL self c.l 256 xs pc [] := ⟨_, rfl⟩
  rw [← hRR]
  have HD := Lib.hid hRR
  clear hRR
  obtain ⟨r0, r1, r2, r3, r4, r5, r6, r7, rfl⟩ := eight_cons hx.1
  have q0 : Cb (((w.alloc (.cells #[.int .u32 r0, .int .u32 r1, .int .u32 r2, .int .u32 r3, .int .u32 r4, .int .u32 r5, .int .u32 r6, .int .u32 r7, .int .i64 pc] 66)).alloc (.cells #[.slice a c.l.length ca, .int .i64 c.lo, .int .i64 c.un] 24)).alloc (.cells #[.int .u32 0, .int .u32 0, .int .u32 0, .int .u32 0, .int .u32 0, .int .u32 0, .int .u32 0, .int .u32 0, .int .i64 0] 66)) w.heap.size [r0, r1, r2, r3, r4, r5, r6, r7] pc := ((Cb.made w [r0, r1, r2, r3, r4, r5, r6, r7] pc).alloc (.cells #[.slice a c.l.length ca, .int .i64 c.lo, .int .i64 c.un] 24)).alloc (.cells #[.int .u32 0, .int .u32 0, .int .u32 0, .int .u32 0, .int .u32 0, .int .u32 0, .int .u32 0, .int .u32 0, .int .i64 0] 66)
  have q1 : Bk (((w.alloc (.cells #[.int .u32 r0, .int .u32 r1, .int .u32 r2, .int .u32 r3, .int .u32 r4, .int .u32 r5, .int .u32 r6, .int .u32 r7, .int .i64 pc] 66)).alloc (.cells #[.slice a c.l.length ca, .int .i64 c.lo, .int .i64 c.un] 24)).alloc (.cells #[.int .u32 0, .int .u32 0, .int .u32 0, .int .u32 0, .int .u32 0, .int .u32 0, .int .u32 0, .int .u32 0, .int .i64 0] 66)) (w.heap.size + 1) 24 #[.slice a c.l.length ca, .int .i64 c.lo, .int .i64 c.un] := by
    have := Bk.alloc (Bk.made (w.alloc (.cells #[.int .u32 r0, .int .u32 r1, .int .u32 r2, .int .u32 r3, .int .u32 r4, .int .u32 r5, .int .u32 r6, .int .u32 r7, .int .i64 pc] 66)) 24 #[.slice a c.l.length ca, .int .i64 c.lo, .int .i64 c.un]) (.cells #[.int .u32 0, .int .u32 0, .int .u32 0, .int .u32 0, .int .u32 0, .int .u32 0, .int .u32 0, .int .u32 0, .int .i64 0] 66)
    rw [World.size_alloc] at this
    exact this
  have q2 : Cb (((w.alloc (.cells #[.int .u32 r0, .int .u32 r1, .int .u32 r2, .int .u32 r3, .int .u32 r4, .int .u32 r5, .int .u32 r6, .int .u32 r7, .int .i64 pc] 66)).alloc (.cells #[.slice a c.l.length ca, .int .i64 c.lo, .int .i64 c.un] 24)).alloc (.cells #[.int .u32 0, .int .u32 0, .int .u32 0, .int .u32 0, .int .u32 0, .int .u32 0, .int .u32 0, .int .u32 0, .int .i64 0] 66)) (w.heap.size + 1 + 1) [0, 0, 0, 0, 0, 0, 0, 0] 0 := by
    have := Cb.made ((w.alloc (.cells #[.int .u32 r0, .int .u32 r1, .int .u32 r2, .int .u32 r3, .int .u32 r4, .int .u32 r5, .int .u32 r6, .int .u32 r7, .int .i64 pc] 66)).alloc (.cells #[.slice a c.l.length ca, .int .i64 c.lo, .int .i64 c.un] 24)) [0, 0, 0, 0, 0, 0, 0, 0] 0
    rw [World.size_alloc, World.size_alloc] at this
    exact this
  have b0 : Below w.heap.size w (((w.alloc (.cells #[.int .u32 r0, .int .u32 r1, .int .u32 r2, .int .u32 r3, .int .u32 r4, .int .u32 r5, .int .u32 r6, .int .u32 r7, .int .i64 pc] 66)).alloc (.cells #[.slice a c.l.length ca, .int .i64 c.lo, .int .i64 c.un] 24)).alloc (.cells #[.int .u32 0, .int .u32 0, .int .u32 0, .int .u32 0, .int .u32 0, .int .u32 0, .int .u32 0, .int .u32 0, .int .i64 0] 66)) := (((Below.refl _ _).alloc (Nat.le_refl _) _).alloc (by simp) _).alloc (by simp; omega) _
  unfold Ran cv
  simp only [corC, List.map_cons, List.map_nil, List.cons_append, List.nil_append]
  go_enter Tryz.func31, Tryz.ntmps31
  go_upto_region 1 with fail
  generalize ((w.alloc (.cells #[.int .u32 r0, .int .u32 r1, .int .u32 r2, .int .u32 r3, .int .u32 r4, .int .u32 r5, .int .u32 r6, .int .u32 r7, .int .i64 pc] 66)).alloc (.cells #[.slice a c.l.length ca, .int .i64 c.lo, .int .i64 c.un] 24)).alloc (.cells #[.int .u32 0, .int .u32 0, .int .u32 0, .int .u32 0, .int .u32 0, .int .u32 0, .int .u32 0, .int .u32 0, .int .i64 0] 66) = x at *
  have hI : RunI w a c.l.length ca c.lo c.un (.slice none 0 0) [r0, r1, r2, r3, r4, r5, r6, r7] pc [] x := ⟨b0, q0, q1, q2, Lst.nil _ _ _⟩
  clear q0 q1 q2 b0
  go_upto_block 0 with fail
  have hlo : ∀ g, (Value.slice none 0 0).ownBlock = some g → w.heap.size ≤ g := fun g e => by cases e
  go_cut [7] (fun m wx => ∃ (xs : List Int) (pc : Int) (ms : List Int), RunI w a c.l.length ca c.lo c.un m xs pc ms wx ∧ Eight xs ∧ Hid (RR = stopL c.l xs pc ms))
  case first =>
    go_wp2
    go_loopw [7, 14] (fun m t wr => ∃ (k : Nat) (xs : List Int) (pc : Int) (ms : List Int), t = .int .i64 k ∧ k ≤ 256 ∧ RunI w a c.l.length ca c.lo c.un m xs pc ms wr ∧ (∀ g, m.ownBlock = some g → w.heap.size ≤ g) ∧ Eight xs ∧ ms.length ≤ k ∧ Hid (RR = runL self c.l (256 - k) xs pc ms)) (fun _ t _ => 256 - (intOf t).toNat)
    case atStart => exact ⟨0, _, _, _, rfl, Nat.zero_le _, hI, hlo, hx, Nat.le_refl _, HD⟩
    case round =>
      obtain ⟨k, xs, p, ms, rfl, hk, hJ, hown, hxs, hml, HR⟩ := hrel
      clear hI hlo hx HD
      by_cases hlt : k < 256
      · have hki : (k : Int) < 256 := by omega
        obtain ⟨x0, x1, x2, x3, x4, x5, x6, x7, rfl⟩ := eight_cons hxs.1
        obtain ⟨c0, c1, c2, c3, c4, c5, c6, c7, c8⟩ := hJ.c.cells
        obtain ⟨k0, k1, k2⟩ : wr.cell? ⟨w.heap.size + 1, 0, none⟩ = some (.slice a c.l.length ca) ∧ wr.cell? ⟨w.heap.size + 1, 1, none⟩ = some (.int .i64 c.lo) ∧ wr.cell? ⟨w.heap.size + 1, 2, none⟩ = some (.int .i64 c.un) := ⟨hJ.k.cell 0, hJ.k.cell 1, hJ.k.cell 2⟩
        by_cases hst : p < 0 ∨ c.l.length ≤ p
        · have HAT := Lib.hid (cAt c (.agg #[.slice a c.l.length ca, .int .i64 c.lo, .int .i64 c.un]) wr ⟨a, ca, rfl, hc1, hc2, hcn, ha.below hJ.b⟩ p Ins.zero false (.inl ⟨rfl, rfl, hst⟩))
          have HS : Hid (RR = stopL c.l [x0, x1, x2, x3, x4, x5, x6, x7] p ms) := Lib.hid (by rw [HR.out]; exact runL_stop (.inl hst))
          unfold iv Ins.zero at HAT
          simp only at HAT
          clear hst HR
          go_upto_region 3 with fail
          go_wp2_with fail
          refine HAT.out.mono ?_
          rintro e y ⟨rfl, hy⟩
          replace hJ := hJ.below hy
          go_upto_region 4 with fail
          replace hJ := hJ.below ((Below.refl _ y).alloc (o := .cells #[.int .i64 0, .int .i64 0, .int .i64 0, .int .i64 0, .int .i64 0, .int .i64 0, .int .u32 0, .int .i64 0] 45) (Nat.le_refl _))
          go_wp2
          go_meet
          case rel => exact ⟨_, _, _, hJ, hxs, HS⟩
        · obtain ⟨j, rfl⟩ : ∃ j : Nat, p = j := ⟨p.toNat, by omega⟩
          have hj : j < c.l.length := by omega
          have hge := List.getElem?_eq_getElem hj
          have hOk := hi _ (List.getElem_mem hj)
          generalize c.l[j] = i at *
          have HAT := Lib.hid (cAt c (.agg #[.slice a c.l.length ca, .int .i64 c.lo, .int .i64 c.un]) wr ⟨a, ca, rfl, hc1, hc2, hcn, ha.below hJ.b⟩ (j : Int) i true (.inr ⟨rfl, j, rfl, hge⟩))
          have HM := Lib.hid (fun W => cMemory i W)
          have HON := Lib.hid (fun W => cOne [x0, x1, x2, x3, x4, x5, x6, x7] (j : Int) i self hxs hOk h0 h1 (by omega) (by omega) W)
          have hx2 := hxs.one hOk h0 h1
          have HSM : Hid (memB i.op = true → RR = stopL c.l [x0, x1, x2, x3, x4, x5, x6, x7] j ms) := Lib.hid fun hm => by rw [HR.out]; exact runL_stop (.inr (.inl (by rw [memAt_in hge]; exact hm)))
          have HSD : Hid (i.op = 13 → RR = ⟨[x0, x1, x2, x3, x4, x5, x6, x7], j, ms, i.k, 0⟩) := Lib.hid fun hm => by rw [HR.out, show 256 - k = (255 - k) + 1 by omega]; exact runL_done hge hm
          have HSS : Hid (memB i.op = false → i.op ≠ 13 → RR = runL self c.l (256 - (k + 1)) (oneR [x0, x1, x2, x3, x4, x5, x6, x7] i self) (oneP [x0, x1, x2, x3, x4, x5, x6, x7] j i) (if i.op = 12 then ms ++ [i.k] else ms)) := Lib.hid fun hm h13 => by rw [HR.out, show 256 - k = (256 - (k + 1)) + 1 by omega]; exact runL_step hge hm h13
          have HDO : Hid (i.op = 13 → oneR [x0, x1, x2, x3, x4, x5, x6, x7] i self = [x0, x1, x2, x3, x4, x5, x6, x7] ∧ oneP [x0, x1, x2, x3, x4, x5, x6, x7] j i = j) := Lib.hid one_done
          have hkk := hOk.k
          generalize oneR [x0, x1, x2, x3, x4, x5, x6, x7] i self = XN at *
          generalize oneP [x0, x1, x2, x3, x4, x5, x6, x7] j i = PN at *
          obtain ⟨op, d, s, t, u, a', k', pl⟩ := i
          simp only at HM HON HSM HSD HSS HDO hkk
          unfold iv cv at *
          simp only [corC, List.map_cons, List.map_nil, List.cons_append, List.nil_append] at HAT HM HON
          generalize memB op = mb at *
          clear hst HR hOk hge
          go_upto_region 3 with fail
          go_wp2_with fail
          refine HAT.out.mono ?_
          rintro e y ⟨rfl, hy⟩
          clear c0 c1 c2 c3 c4 c5 c6 c7 c8 k0 k1 k2 HAT
          replace hJ := hJ.below hy
          go_upto_region 4 with fail
          have m2 := Ib.made y op d s t u a' k' pl
          replace hJ := hJ.below ((Below.refl _ y).alloc (o := .cells #[.int .i64 op, .int .i64 d, .int .i64 s, .int .i64 t, .int .i64 u, .int .i64 a', .int .u32 k', .int .i64 pl] 45) (Nat.le_refl _))
          have hq : w.heap.size ≠ y.heap.size := by
            intro e
            rw [← e] at m2
            exact Bk.unlike m2 hJ.c (by decide) rfl
          clear hy
          generalize y.heap.size = q at *
          generalize y.alloc (.cells #[.int .i64 op, .int .i64 d, .int .i64 s, .int .i64 t, .int .i64 u, .int .i64 a', .int .u32 k', .int .i64 pl] 45) = z at *
          obtain ⟨e0, e1, e2, e3, e4, e5, e6, e7⟩ := m2.cells
          simp only at e0 e1 e2 e3 e4 e5 e6 e7
          go_wp2_with fail
          refine (HM.out _).mono ?_
          rintro e z1 ⟨rfl, hz⟩
          clear e0 e1 e2 e3 e4 e5 e6 e7 HM
          replace hJ := hJ.below hz
          replace m2 := m2.below hz
          clear hz
          obtain ⟨e0, e1, e2, e3, e4, e5, e6, e7⟩ := m2.cells
          simp only at e0 e1 e2 e3 e4 e5 e6 e7
          cases mb with
          | true =>
            clear HSD HSS HDO HON
            go_wp2
            go_meet
            case rel => exact ⟨_, _, _, hJ, hxs, Lib.hid (HSM.out (by trivial))⟩
          | false =>
            obtain ⟨c0, c1, c2, c3, c4, c5, c6, c7, c8⟩ := hJ.c.cells
            obtain ⟨s0, s1, s2, s3, s4, s5, s6, s7, hsx⟩ := eight_cons hx2.1
            subst hsx
            simp only [List.map_cons, List.map_nil, List.cons_append, List.nil_append] at HON
            clear HSM
            go_upto_region 5 with fail
            go_wp2_with fail
            refine (HON.out _).mono ?_
            rintro e z2 ⟨rfl, hz⟩
            clear e0 e1 e2 e3 e4 e5 e6 e7 c0 c1 c2 c3 c4 c5 c6 c7 c8 HON
            replace hJ := hJ.below hz
            replace m2 := m2.below hz
            clear hz
            obtain ⟨c0, c1, c2, c3, c4, c5, c6, c7, c8⟩ := hJ.c.cells
            have zf := Bk.free hJ.c
            have hJ2 := hJ.one (s0 := s0) (s1 := s1) (s2 := s2) (s3 := s3) (s4 := s4) (s5 := s5) (s6 := s6) (s7 := s7) (pc' := PN)
            have m3 : Ib (put9 z2 w.heap.size (.int .u32 s0) (.int .u32 s1) (.int .u32 s2) (.int .u32 s3) (.int .u32 s4) (.int .u32 s5) (.int .u32 s6) (.int .u32 s7) (.int .i64 PN)) q _ := put9_off m2 (fun e => hq e.symm) (.int .u32 s0) (.int .u32 s1) (.int .u32 s2) (.int .u32 s3) (.int .u32 s4) (.int .u32 s5) (.int .u32 s6) (.int .u32 s7) (.int .i64 PN)
            clear m2 hJ
            go_upto_region 6 with fail
            clear c0 c1 c2 c3 c4 c5 c6 c7 c8 zf
            generalize hv : (((((((((z2.setCell ⟨w.heap.size, 0, none⟩ (.int .u32 s0)).setCell ⟨w.heap.size, 1, none⟩ (.int .u32 s1)).setCell ⟨w.heap.size, 2, none⟩ (.int .u32 s2)).setCell ⟨w.heap.size, 3, none⟩ (.int .u32 s3)).setCell ⟨w.heap.size, 4, none⟩ (.int .u32 s4)).setCell ⟨w.heap.size, 5, none⟩ (.int .u32 s5)).setCell ⟨w.heap.size, 6, none⟩ (.int .u32 s6)).setCell ⟨w.heap.size, 7, none⟩ (.int .u32 s7)).setCell ⟨w.heap.size, 8, none⟩ (.int .i64 PN)) = z3
            replace hv : put9 z2 w.heap.size (.int .u32 s0) (.int .u32 s1) (.int .u32 s2) (.int .u32 s3) (.int .u32 s4) (.int .u32 s5) (.int .u32 s6) (.int .u32 s7) (.int .i64 PN) = z3 := hv
            rw [hv] at hJ2 m3
            clear hv
            obtain ⟨e0, e1, e2, e3, e4, e5, e6, e7⟩ := m3.cells
            simp only at e0 e1 e2 e3 e4 e5 e6 e7
            by_cases h13 : op = 13
            · subst h13
              have HE := Lib.hid (HSD.out rfl)
              have HG := Lib.hid (HDO.out rfl)
              have nq : q ≠ w.heap.size + 1 + 1 := Bk.unlike m3 hJ2.r (by decide)
              have n02 : w.heap.size ≠ w.heap.size + 1 + 1 := by omega
              clear HSD HSS HDO
              go_upto_region 10 with fail
              obtain ⟨c0, c1, c2, c3, c4, c5, c6, c7, c8⟩ := hJ2.c.cells
              obtain ⟨n0, n1, n2, n3, n4, n5, n6, n7, n8⟩ := hJ2.r.cells
              have zf := Bk.free hJ2.r
              go_region
              obtain ⟨l9, b9, k9⟩ := hJ2.ret (r0 := s0) (r1 := s1) (r2 := s2) (r3 := s3) (r4 := s4) (r5 := s5) (r6 := s6) (r7 := s7) (pc' := PN)
              go_wp
              generalize hv9 : ((((((((((z3.setCell ⟨w.heap.size + 1 + 1, 0, none⟩ (.int .u32 s0)).setCell ⟨w.heap.size + 1 + 1, 1, none⟩ (.int .u32 s1)).setCell ⟨w.heap.size + 1 + 1, 2, none⟩ (.int .u32 s2)).setCell ⟨w.heap.size + 1 + 1, 3, none⟩ (.int .u32 s3)).setCell ⟨w.heap.size + 1 + 1, 4, none⟩ (.int .u32 s4)).setCell ⟨w.heap.size + 1 + 1, 5, none⟩ (.int .u32 s5)).setCell ⟨w.heap.size + 1 + 1, 6, none⟩ (.int .u32 s6)).setCell ⟨w.heap.size + 1 + 1, 7, none⟩ (.int .u32 s7)).setCell ⟨w.heap.size + 1 + 1, 8, none⟩ (.int .i64 PN))).drew = v9
              replace hv9 : (put9 z3 (w.heap.size + 1 + 1) (.int .u32 s0) (.int .u32 s1) (.int .u32 s2) (.int .u32 s3) (.int .u32 s4) (.int .u32 s5) (.int .u32 s6) (.int .u32 s7) (.int .i64 PN)).drew = v9 := hv9
              replace l9 := lst_drew l9
              replace b9 := b9.drew
              replace k9 := cb_drew k9
              rw [hv9] at l9 b9 k9
              obtain ⟨y0, y1, y2, y3, y4, y5, y6, y7, y8⟩ := k9.cells
              exact bodyPost_ret (v := .tuple #[.agg #[.int .u32 s0, .int .u32 s1, .int .u32 s2, .int .u32 s3, .int .u32 s4, .int .u32 s5, .int .u32 s6, .int .u32 s7, .int .i64 PN], u7, .int .i64 k', .int .i64 0]) (by simp [results, Tryz.results31, go_sem, y0, y1, y2, y3, y4, y5, y6, y7, y8]) rfl ⟨_, by rw [HE.out, ← HG.out.1, ← HG.out.2]; rfl, by rw [HE.out]; exact l9, b9⟩
            by_cases h12 : op = 12
            · subst h12
              have HE := HSS.out (by trivial) h13
              rw [if_pos rfl] at HE
              replace HE := Lib.hid HE
              clear HSD HSS HDO
              have hL := hJ2.l
              go_wp2_with (at_builtin; refine wpLstApp (by rfl) _ _ 25 (by rfl) 8 Tryz.underlying25 (by kernel_rfl) (by decide) hL (by rfl) k' (by rfl) (by omega) ?_; intro v' y' hL' hg hloc)
              have hJ3 := hJ2.app hL' hg hown
              have hown2 : ∀ g, v'.ownBlock = some g → w.heap.size ≤ g := by
                intro g e
                rcases hloc with hl | hl
                · exact hown g (hl ▸ e)
                · rw [hl] at e
                  injection e with e
                  have := hJ2.b.size
                  omega
              clear hJ2 hL hL' hg hloc
              go_roundw
              case rel => exact ⟨k + 1, _, _, _, by go_num, by omega, hJ3, hown2, hx2, by simp; omega, HE⟩
              case measure =>
                show 256 - ((k : Int) + 1).toNat < 256 - (k : Int).toNat
                omega
            · have b13 : (op == 13) = false := by simpa using h13
              have b12 : (op == 12) = false := by simpa using h12
              have HE := HSS.out (by trivial) h13
              rw [if_neg h12] at HE
              replace HE := Lib.hid HE
              clear HSD HSS HDO h13 h12
              go_wp2
              go_roundw
              case rel => exact ⟨k + 1, _, _, _, by go_num, by omega, hJ2, hown, hx2, by omega, HE⟩
              case measure =>
                show 256 - ((k : Int) + 1).toNat < 256 - (k : Int).toNat
                omega
      · have hki : ¬ (k : Int) < 256 := by omega
        have HS : Hid (RR = stopL c.l xs p ms) := Lib.hid (by rw [HR.out]; exact runL_stop (.inr (.inr (by omega))))
        go_wp2
        go_meet
        case rel => exact ⟨_, _, _, hJ, hxs, HS⟩
  case rest =>
    obtain ⟨xs, p, ms, hJ, hxs, HS⟩ := hcut
    clear hI hx HD hlo
    obtain ⟨x0, x1, x2, x3, x4, x5, x6, x7, rfl⟩ := eight_cons hxs.1
    generalize u7 = m at *
    obtain ⟨c0, c1, c2, c3, c4, c5, c6, c7, c8⟩ := hJ.c.cells
    obtain ⟨k0, k1, k2⟩ : wc.cell? ⟨w.heap.size + 1, 0, none⟩ = some (.slice a c.l.length ca) ∧ wc.cell? ⟨w.heap.size + 1, 1, none⟩ = some (.int .i64 c.lo) ∧ wc.cell? ⟨w.heap.size + 1, 2, none⟩ = some (.int .i64 c.un) := ⟨hJ.k.cell 0, hJ.k.cell 1, hJ.k.cell 2⟩
    by_cases hst : p < 0 ∨ c.l.length ≤ p
    · have HAT := Lib.hid (cAt c (.agg #[.slice a c.l.length ca, .int .i64 c.lo, .int .i64 c.un]) wc ⟨a, ca, rfl, hc1, hc2, hcn, ha.below hJ.b⟩ p Ins.zero false (.inl ⟨rfl, rfl, hst⟩))
      have HE : Hid (RR = ⟨[x0, x1, x2, x3, x4, x5, x6, x7], p, ms, -1, 11⟩) := Lib.hid (by rw [HS.out]; unfold stopL; rw [memAt_out hst]; rfl)
      unfold iv Ins.zero at HAT
      simp only at HAT
      clear hst HS
      go_upto_region 12 with fail
      go_wp2_with fail
      refine HAT.out.mono ?_
      rintro e y ⟨rfl, hy⟩
      clear c0 c1 c2 c3 c4 c5 c6 c7 c8 k0 k1 k2
      replace hJ := hJ.below hy
      go_upto_region 13 with fail
      replace hJ := hJ.below ((Below.refl _ y).alloc (o := .cells #[.int .i64 0, .int .i64 0, .int .i64 0, .int .i64 0, .int .i64 0, .int .i64 0, .int .u32 0, .int .i64 0] 45) (Nat.le_refl _))
      generalize y.alloc (.cells #[.int .i64 0, .int .i64 0, .int .i64 0, .int .i64 0, .int .i64 0, .int .i64 0, .int .u32 0, .int .i64 0] 45) = z at *
      obtain ⟨c0, c1, c2, c3, c4, c5, c6, c7, c8⟩ := hJ.c.cells
      obtain ⟨n0, n1, n2, n3, n4, n5, n6, n7, n8⟩ := hJ.r.cells
      have zf := Bk.free hJ.r
      go_upto_region 14 with fail
      obtain ⟨l9, b9, k9⟩ := hJ.ret (r0 := x0) (r1 := x1) (r2 := x2) (r3 := x3) (r4 := x4) (r5 := x5) (r6 := x6) (r7 := x7) (pc' := p)
      go_wp
      generalize hv9 : ((((((((((z.setCell ⟨w.heap.size + 1 + 1, 0, none⟩ (.int .u32 x0)).setCell ⟨w.heap.size + 1 + 1, 1, none⟩ (.int .u32 x1)).setCell ⟨w.heap.size + 1 + 1, 2, none⟩ (.int .u32 x2)).setCell ⟨w.heap.size + 1 + 1, 3, none⟩ (.int .u32 x3)).setCell ⟨w.heap.size + 1 + 1, 4, none⟩ (.int .u32 x4)).setCell ⟨w.heap.size + 1 + 1, 5, none⟩ (.int .u32 x5)).setCell ⟨w.heap.size + 1 + 1, 6, none⟩ (.int .u32 x6)).setCell ⟨w.heap.size + 1 + 1, 7, none⟩ (.int .u32 x7)).setCell ⟨w.heap.size + 1 + 1, 8, none⟩ (.int .i64 p))) = v9
      replace hv9 : (put9 z (w.heap.size + 1 + 1) (.int .u32 x0) (.int .u32 x1) (.int .u32 x2) (.int .u32 x3) (.int .u32 x4) (.int .u32 x5) (.int .u32 x6) (.int .u32 x7) (.int .i64 p)) = v9 := hv9
      rw [hv9] at l9 b9 k9
      obtain ⟨y0, y1, y2, y3, y4, y5, y6, y7, y8⟩ := k9.cells
      exact bodyPost_ret (v := .tuple #[.agg #[.int .u32 x0, .int .u32 x1, .int .u32 x2, .int .u32 x3, .int .u32 x4, .int .u32 x5, .int .u32 x6, .int .u32 x7, .int .i64 p], m, .int .i64 (-1), .int .i64 11]) (by simp [results, Tryz.results31, go_sem, y0, y1, y2, y3, y4, y5, y6, y7, y8]) rfl ⟨_, by rw [HE.out]; rfl, by rw [HE.out]; exact l9, b9⟩
    · obtain ⟨j, rfl⟩ : ∃ j : Nat, p = j := ⟨p.toNat, by omega⟩
      have hj : j < c.l.length := by omega
      have hge := List.getElem?_eq_getElem hj
      generalize c.l[j] = i at *
      have HAT := Lib.hid (cAt c (.agg #[.slice a c.l.length ca, .int .i64 c.lo, .int .i64 c.un]) wc ⟨a, ca, rfl, hc1, hc2, hcn, ha.below hJ.b⟩ (j : Int) i true (.inr ⟨rfl, j, rfl, hge⟩))
      have HM := Lib.hid (fun W => cMemory i W)
      have HE : Hid (RR = ⟨[x0, x1, x2, x3, x4, x5, x6, x7], j, ms, -1, if memB i.op then 0 else 11⟩) := Lib.hid (by rw [HS.out]; unfold stopL; rw [memAt_in hge])
      obtain ⟨op, d, s, t, u, a', k', pl⟩ := i
      simp only at HM HE
      unfold iv at *
      simp only at HAT HM
      generalize memB op = mb at *
      clear hst HS hge
      go_upto_region 12 with fail
      go_wp2_with fail
      refine HAT.out.mono ?_
      rintro e y ⟨rfl, hy⟩
      clear c0 c1 c2 c3 c4 c5 c6 c7 c8 k0 k1 k2 HAT
      replace hJ := hJ.below hy
      go_upto_region 13 with fail
      have m2 := Ib.made y op d s t u a' k' pl
      replace hJ := hJ.below ((Below.refl _ y).alloc (o := .cells #[.int .i64 op, .int .i64 d, .int .i64 s, .int .i64 t, .int .i64 u, .int .i64 a', .int .u32 k', .int .i64 pl] 45) (Nat.le_refl _))
      clear hy
      generalize y.heap.size = q at *
      generalize y.alloc (.cells #[.int .i64 op, .int .i64 d, .int .i64 s, .int .i64 t, .int .i64 u, .int .i64 a', .int .u32 k', .int .i64 pl] 45) = z at *
      obtain ⟨e0, e1, e2, e3, e4, e5, e6, e7⟩ := m2.cells
      simp only at e0 e1 e2 e3 e4 e5 e6 e7
      go_wp2_with fail
      refine (HM.out _).mono ?_
      rintro e z1 ⟨rfl, hz⟩
      clear e0 e1 e2 e3 e4 e5 e6 e7 HM
      replace hJ := hJ.below hz
      clear hz m2
      obtain ⟨c0, c1, c2, c3, c4, c5, c6, c7, c8⟩ := hJ.c.cells
      obtain ⟨n0, n1, n2, n3, n4, n5, n6, n7, n8⟩ := hJ.r.cells
      have zf := Bk.free hJ.r
      cases mb with
      | true =>
        go_upto_region 15 with fail
        obtain ⟨l9, b9, k9⟩ := hJ.ret (r0 := x0) (r1 := x1) (r2 := x2) (r3 := x3) (r4 := x4) (r5 := x5) (r6 := x6) (r7 := x7) (pc' := j)
        go_wp
        generalize hv9 : ((((((((((z1.setCell ⟨w.heap.size + 1 + 1, 0, none⟩ (.int .u32 x0)).setCell ⟨w.heap.size + 1 + 1, 1, none⟩ (.int .u32 x1)).setCell ⟨w.heap.size + 1 + 1, 2, none⟩ (.int .u32 x2)).setCell ⟨w.heap.size + 1 + 1, 3, none⟩ (.int .u32 x3)).setCell ⟨w.heap.size + 1 + 1, 4, none⟩ (.int .u32 x4)).setCell ⟨w.heap.size + 1 + 1, 5, none⟩ (.int .u32 x5)).setCell ⟨w.heap.size + 1 + 1, 6, none⟩ (.int .u32 x6)).setCell ⟨w.heap.size + 1 + 1, 7, none⟩ (.int .u32 x7)).setCell ⟨w.heap.size + 1 + 1, 8, none⟩ (.int .i64 j))) = v9
        replace hv9 : (put9 z1 (w.heap.size + 1 + 1) (.int .u32 x0) (.int .u32 x1) (.int .u32 x2) (.int .u32 x3) (.int .u32 x4) (.int .u32 x5) (.int .u32 x6) (.int .u32 x7) (.int .i64 j)) = v9 := hv9
        rw [hv9] at l9 b9 k9
        obtain ⟨y0, y1, y2, y3, y4, y5, y6, y7, y8⟩ := k9.cells
        exact bodyPost_ret (v := .tuple #[.agg #[.int .u32 x0, .int .u32 x1, .int .u32 x2, .int .u32 x3, .int .u32 x4, .int .u32 x5, .int .u32 x6, .int .u32 x7, .int .i64 j], m, .int .i64 (-1), .int .i64 0]) (by simp [results, Tryz.results31, go_sem, y0, y1, y2, y3, y4, y5, y6, y7, y8]) rfl ⟨_, by rw [HE.out]; rfl, by rw [HE.out]; exact l9, b9⟩
      | false =>
        go_upto_region 14 with fail
        obtain ⟨l9, b9, k9⟩ := hJ.ret (r0 := x0) (r1 := x1) (r2 := x2) (r3 := x3) (r4 := x4) (r5 := x5) (r6 := x6) (r7 := x7) (pc' := j)
        go_wp
        generalize hv9 : ((((((((((z1.setCell ⟨w.heap.size + 1 + 1, 0, none⟩ (.int .u32 x0)).setCell ⟨w.heap.size + 1 + 1, 1, none⟩ (.int .u32 x1)).setCell ⟨w.heap.size + 1 + 1, 2, none⟩ (.int .u32 x2)).setCell ⟨w.heap.size + 1 + 1, 3, none⟩ (.int .u32 x3)).setCell ⟨w.heap.size + 1 + 1, 4, none⟩ (.int .u32 x4)).setCell ⟨w.heap.size + 1 + 1, 5, none⟩ (.int .u32 x5)).setCell ⟨w.heap.size + 1 + 1, 6, none⟩ (.int .u32 x6)).setCell ⟨w.heap.size + 1 + 1, 7, none⟩ (.int .u32 x7)).setCell ⟨w.heap.size + 1 + 1, 8, none⟩ (.int .i64 j))) = v9
        replace hv9 : (put9 z1 (w.heap.size + 1 + 1) (.int .u32 x0) (.int .u32 x1) (.int .u32 x2) (.int .u32 x3) (.int .u32 x4) (.int .u32 x5) (.int .u32 x6) (.int .u32 x7) (.int .i64 j)) = v9 := hv9
        rw [hv9] at l9 b9 k9
        obtain ⟨y0, y1, y2, y3, y4, y5, y6, y7, y8⟩ := k9.cells
        exact bodyPost_ret (v := .tuple #[.agg #[.int .u32 x0, .int .u32 x1, .int .u32 x2, .int .u32 x3, .int .u32 x4, .int .u32 x5, .int .u32 x6, .int .u32 x7, .int .i64 j], m, .int .i64 (-1), .int .i64 11]) (by simp [results, Tryz.results31, go_sem, y0, y1, y2, y3, y4, y5, y6, y7, y8]) rfl ⟨_, by rw [HE.out]; rfl, by rw [HE.out]; exact l9, b9⟩
end Go.Proofs.YtpinpipjlongaaaGreat
