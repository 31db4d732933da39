/- CoreV, CoreW, ExA, ExB, EyA, ExB1. -/
import Derived.Test.YtpinpipjlongaaaGreatKCoreT
import Derived.Test.YtpinpipjlongaaaGreatKCoreU
import Derived.Test.YtpinpipjlongaaaGreatKArA
import Derived.Test.YtpinpipjlongaaaGreatKMem
import Derived.Test.YtpinpipjlongaaaGreatKHold
import Derived.Test.YtpinpipjlongaaaGreatKCoreM
import Derived.Test.YtpinpipjlongaaaGreatKPoolRefD
import Derived.ChangeArms
import Derived.DataReads
/- The document's Run. -/
namespace Go.Proofs.YtpinpipjlongaaaGreat
set_option maxRecDepth 100000
open Go.ChangeShapes Go.WideShapes Go.ChangeAt Go.RowKit
set_option linter.unusedVariables false

/-- What the document's run has in memory. -/
structure RunR (w : World) (a : Option Addr) (n ca : Nat) (lo un : Int) (m : Value) (xs : List Int) (pc : Int) (ms : List Int) (wr : World) : Prop where
  b : Below w.heap.size w wr
  c : Rb wr w.heap.size xs pc
  k : Bk wr (w.heap.size + 1) 34 #[.slice a n ca, .int .i64 lo, .int .i64 un]
  r : Rb wr (w.heap.size + 1 + 1) [0, 0, 0, 0, 0, 0, 0, 0] 0
  l : Lst .i64 3 wr m ms
theorem rb_drew {w : World} {g : Nat} {xs : List Int} {pc : Int} (h : Rb w g xs pc) : Rb w.drew g xs pc := h
section
variable {w : World} {a : Option Addr} {n ca : Nat} {lo un : Int} {m : Value} {xs : List Int} {pc : Int} {ms : List Int} {wr wx : World}
theorem RunR.below (h : RunR w a n ca lo un m xs pc ms wr) (hb : Below wr.heap.size wr wx) : RunR w a n ca lo un m xs pc ms wx :=
  ⟨h.b.trans (hb.mono h.b.size), h.c.below hb, (hb.block _ h.k.lt).trans h.k, h.r.below hb, lst_below h.l hb⟩
theorem RunR.one {r0 r1 r2 r3 r4 r5 r6 r7 s0 s1 s2 s3 s4 s5 s6 s7 pc' : Int} (h : RunR w a n ca lo un m [r0, r1, r2, r3, r4, r5, r6, r7] pc ms wr) :
    RunR w a n ca lo un m [s0, s1, s2, s3, s4, s5, s6, s7] pc' ms (put9 wr w.heap.size (.int .i64 s0) (.int .i64 s1) (.int .i64 s2) (.int .i64 s3) (.int .i64 s4) (.int .i64 s5) (.int .i64 s6) (.int .i64 s7) (.int .i64 pc')) := by
  refine ⟨put9_below h.b (Nat.le_refl _) _ _ _ _ _ _ _ _ _, put9_bk h.c _ _ _ _ _ _ _ _ _, put9_off h.k (by omega) _ _ _ _ _ _ _ _ _, put9_off h.r (by omega) _ _ _ _ _ _ _ _ _, ?_⟩
  have hW : Within wr (put9 wr w.heap.size (.int .i64 s0) (.int .i64 s1) (.int .i64 s2) (.int .i64 s3) (.int .i64 s4) (.int .i64 s5) (.int .i64 s6) (.int .i64 s7) (.int .i64 pc')) (fun b => b = w.heap.size) := by
    unfold put9
    exact (((((((((Within.refl wr (fun b => b = w.heap.size)).put _ 0 _ (.inl rfl)).put _ 1 _ (.inl rfl)).put _ 2 _ (.inl rfl)).put _ 3 _ (.inl rfl)).put _ 4 _ (.inl rfl)).put _ 5 _ (.inl rfl)).put _ 6 _ (.inl rfl)).put _ 7 _ (.inl rfl)).put _ 8 _ (.inl rfl)
  refine h.l.within hW fun g e e2 => ?_
  obtain ⟨cs, hcs⟩ := h.l.bk e
  exact Bk.unlike hcs h.c (by decide) e2
theorem RunR.app {m' : Value} {ms' : List Int} (h : RunR w a n ca lo un m xs pc ms wr) (hl : Lst .i64 3 wx m' ms') (hg : wr.grownBy wx m.ownBlock) (hw : ∀ g, m.ownBlock = some g → w.heap.size ≤ g) : RunR w a n ca lo un m' xs pc ms' wx := by
  have un_ : ∀ {g : Nat} {t : TypeId} {cs : Array Value}, t ≠ 3 → Bk wr g t cs → Bk wx g t cs := fun ht hk => hk.grown hg fun e => by
    obtain ⟨cs, hcs⟩ := h.l.bk e.symm
    exact Bk.unlike hcs hk (fun e => ht e.symm) rfl
  refine ⟨h.b.trans ⟨hg.os, hg.tape, hg.output, hg.size, fun i hi => hg.block i (Nat.lt_of_lt_of_le hi h.b.size) fun e => ?_⟩, un_ (by decide) h.c, un_ (by decide) h.k, un_ (by decide) h.r, hl⟩
  have := hw i e.symm
  omega
theorem RunR.ret {r0 r1 r2 r3 r4 r5 r6 r7 pc' : Int} (h : RunR w a n ca lo un m xs pc ms wr) :
    Lst .i64 3 (put9 wr (w.heap.size + 1 + 1) (.int .i64 r0) (.int .i64 r1) (.int .i64 r2) (.int .i64 r3) (.int .i64 r4) (.int .i64 r5) (.int .i64 r6) (.int .i64 r7) (.int .i64 pc')) m ms ∧ Below w.heap.size w (put9 wr (w.heap.size + 1 + 1) (.int .i64 r0) (.int .i64 r1) (.int .i64 r2) (.int .i64 r3) (.int .i64 r4) (.int .i64 r5) (.int .i64 r6) (.int .i64 r7) (.int .i64 pc')) ∧ Rb (put9 wr (w.heap.size + 1 + 1) (.int .i64 r0) (.int .i64 r1) (.int .i64 r2) (.int .i64 r3) (.int .i64 r4) (.int .i64 r5) (.int .i64 r6) (.int .i64 r7) (.int .i64 pc')) (w.heap.size + 1 + 1) [r0, r1, r2, r3, r4, r5, r6, r7] pc' := by
  have hW : Within wr (put9 wr (w.heap.size + 1 + 1) (.int .i64 r0) (.int .i64 r1) (.int .i64 r2) (.int .i64 r3) (.int .i64 r4) (.int .i64 r5) (.int .i64 r6) (.int .i64 r7) (.int .i64 pc')) (fun b => b = w.heap.size + 1 + 1) := by
    unfold put9
    exact (((((((((Within.refl wr (fun b => b = w.heap.size + 1 + 1)).put _ 0 _ (.inl rfl)).put _ 1 _ (.inl rfl)).put _ 2 _ (.inl rfl)).put _ 3 _ (.inl rfl)).put _ 4 _ (.inl rfl)).put _ 5 _ (.inl rfl)).put _ 6 _ (.inl rfl)).put _ 7 _ (.inl rfl)).put _ 8 _ (.inl rfl)
  refine ⟨h.l.within hW fun g e e2 => ?_, put9_below h.b (by omega) _ _ _ _ _ _ _ _ _, put9_bk h.r _ _ _ _ _ _ _ _ _⟩
  obtain ⟨cs, hcs⟩ := h.l.bk e
  exact Bk.unlike hcs h.r (by decide) e2
end

/-- What the document's run returns. -/
def RanR (w : World) (R : Out) (e : Ending) (w' : World) : Prop := ∃ m, e = .returned (.tuple #[rv R.xs R.pc, m, .int .i64 R.done, .int .i64 R.e]) ∧ Lst .i64 3 w' m R.ms ∧ Below w.heap.size w w'

set_option maxHeartbeats 4000000 in
set_option maxRecDepth 100000 in
theorem rRun (c : Prg) (v : Value) (xs : List Int) (pc : Int) (self : Int) (w : World) (hv : Pv w v c) (hl : c.l.length ≤ 64) (hi : ∀ i ∈ c.l, OkI i) (hx : Eight xs) (h0 : 0 ≤ self) (h1 : self < 4294967296) :
    Calls Tryz.prog 50 #[rv xs pc, v, .int .i64 self] w (RanR w (runL self c.l 256 xs pc [])) := by
  obtain ⟨a, ca, rfl, hc1, hc2, hcn, ha⟩ := hv
  obtain ⟨RR, hRR⟩ : ∃ R, R = runL self c.l 256 xs pc [] := ⟨_, rfl⟩
  rw [← hRR]
  have HD := Lib.hid hRR
  clear hRR
  obtain ⟨r0, r1, r2, r3, r4, r5, r6, r7, rfl⟩ := eight_cons hx.1
  have q0 : Rb (((w.alloc (.cells #[.int .i64 r0, .int .i64 r1, .int .i64 r2, .int .i64 r3, .int .i64 r4, .int .i64 r5, .int .i64 r6, .int .i64 r7, .int .i64 pc] 86)).alloc (.cells #[.slice a c.l.length ca, .int .i64 c.lo, .int .i64 c.un] 34)).alloc (.cells #[.int .i64 0, .int .i64 0, .int .i64 0, .int .i64 0, .int .i64 0, .int .i64 0, .int .i64 0, .int .i64 0, .int .i64 0] 86)) w.heap.size [r0, r1, r2, r3, r4, r5, r6, r7] pc := ((Rb.made w [r0, r1, r2, r3, r4, r5, r6, r7] pc).alloc (.cells #[.slice a c.l.length ca, .int .i64 c.lo, .int .i64 c.un] 34)).alloc (.cells #[.int .i64 0, .int .i64 0, .int .i64 0, .int .i64 0, .int .i64 0, .int .i64 0, .int .i64 0, .int .i64 0, .int .i64 0] 86)
  have q1 : Bk (((w.alloc (.cells #[.int .i64 r0, .int .i64 r1, .int .i64 r2, .int .i64 r3, .int .i64 r4, .int .i64 r5, .int .i64 r6, .int .i64 r7, .int .i64 pc] 86)).alloc (.cells #[.slice a c.l.length ca, .int .i64 c.lo, .int .i64 c.un] 34)).alloc (.cells #[.int .i64 0, .int .i64 0, .int .i64 0, .int .i64 0, .int .i64 0, .int .i64 0, .int .i64 0, .int .i64 0, .int .i64 0] 86)) (w.heap.size + 1) 34 #[.slice a c.l.length ca, .int .i64 c.lo, .int .i64 c.un] := by
    have := Bk.alloc (Bk.made (w.alloc (.cells #[.int .i64 r0, .int .i64 r1, .int .i64 r2, .int .i64 r3, .int .i64 r4, .int .i64 r5, .int .i64 r6, .int .i64 r7, .int .i64 pc] 86)) 34 #[.slice a c.l.length ca, .int .i64 c.lo, .int .i64 c.un]) (.cells #[.int .i64 0, .int .i64 0, .int .i64 0, .int .i64 0, .int .i64 0, .int .i64 0, .int .i64 0, .int .i64 0, .int .i64 0] 86)
    rw [World.size_alloc] at this
    exact this
  have q2 : Rb (((w.alloc (.cells #[.int .i64 r0, .int .i64 r1, .int .i64 r2, .int .i64 r3, .int .i64 r4, .int .i64 r5, .int .i64 r6, .int .i64 r7, .int .i64 pc] 86)).alloc (.cells #[.slice a c.l.length ca, .int .i64 c.lo, .int .i64 c.un] 34)).alloc (.cells #[.int .i64 0, .int .i64 0, .int .i64 0, .int .i64 0, .int .i64 0, .int .i64 0, .int .i64 0, .int .i64 0, .int .i64 0] 86)) (w.heap.size + 1 + 1) [0, 0, 0, 0, 0, 0, 0, 0] 0 := by
    have := Rb.made ((w.alloc (.cells #[.int .i64 r0, .int .i64 r1, .int .i64 r2, .int .i64 r3, .int .i64 r4, .int .i64 r5, .int .i64 r6, .int .i64 r7, .int .i64 pc] 86)).alloc (.cells #[.slice a c.l.length ca, .int .i64 c.lo, .int .i64 c.un] 34)) [0, 0, 0, 0, 0, 0, 0, 0] 0
    rw [World.size_alloc, World.size_alloc] at this
    exact this
  have b0 : Below w.heap.size w (((w.alloc (.cells #[.int .i64 r0, .int .i64 r1, .int .i64 r2, .int .i64 r3, .int .i64 r4, .int .i64 r5, .int .i64 r6, .int .i64 r7, .int .i64 pc] 86)).alloc (.cells #[.slice a c.l.length ca, .int .i64 c.lo, .int .i64 c.un] 34)).alloc (.cells #[.int .i64 0, .int .i64 0, .int .i64 0, .int .i64 0, .int .i64 0, .int .i64 0, .int .i64 0, .int .i64 0, .int .i64 0] 86)) := (((Below.refl _ _).alloc (Nat.le_refl _) _).alloc (by simp) _).alloc (by simp; omega) _
  unfold RanR rv
  simp only [rorC, List.map_cons, List.map_nil, List.cons_append, List.nil_append]
  go_enter Tryz.func50, Tryz.ntmps50
  go_upto_region 1 with fail
  generalize ((w.alloc (.cells #[.int .i64 r0, .int .i64 r1, .int .i64 r2, .int .i64 r3, .int .i64 r4, .int .i64 r5, .int .i64 r6, .int .i64 r7, .int .i64 pc] 86)).alloc (.cells #[.slice a c.l.length ca, .int .i64 c.lo, .int .i64 c.un] 34)).alloc (.cells #[.int .i64 0, .int .i64 0, .int .i64 0, .int .i64 0, .int .i64 0, .int .i64 0, .int .i64 0, .int .i64 0, .int .i64 0] 86) = x at *
  have hI : RunR w a c.l.length ca c.lo c.un (.slice none 0 0) [r0, r1, r2, r3, r4, r5, r6, r7] pc [] x := ⟨b0, q0, q1, q2, Lst.nil _ _ _⟩
  clear q0 q1 q2 b0
  have hlo : ∀ g, (Value.slice none 0 0).ownBlock = some g → w.heap.size ≤ g := fun g e => by cases e
  go_wp2
  go_loopw [10, 11] (fun m t wr => ∃ (k : Nat) (xs : List Int) (pc : Int) (ms : List Int), t = .int .i64 k ∧ k ≤ 256 ∧ RunR w a c.l.length ca c.lo c.un m xs pc ms wr ∧ (∀ g, m.ownBlock = some g → w.heap.size ≤ g) ∧ Eight xs ∧ ms.length ≤ k ∧ Hid (RR = runL self c.l (256 - k) xs pc ms)) (fun _ t _ => 256 - (intOf t).toNat)
  case atStart => exact ⟨0, _, _, _, rfl, Nat.zero_le _, hI, hlo, hx, Nat.le_refl _, HD⟩
  case round =>
    obtain ⟨k, xs, p, ms, rfl, hk, hJ, hown, hxs, hml, HR⟩ := hrel
    clear hI hlo hx HD
    have hki : (k : Int) ≤ 256 := by omega
    obtain ⟨x0, x1, x2, x3, x4, x5, x6, x7, rfl⟩ := eight_cons hxs.1
    obtain ⟨c0, c1, c2, c3, c4, c5, c6, c7, c8⟩ := hJ.c.cells
    obtain ⟨k0, k1, k2⟩ : wr.cell? ⟨w.heap.size + 1, 0, none⟩ = some (.slice a c.l.length ca) ∧ wr.cell? ⟨w.heap.size + 1, 1, none⟩ = some (.int .i64 c.lo) ∧ wr.cell? ⟨w.heap.size + 1, 2, none⟩ = some (.int .i64 c.un) := ⟨hJ.k.cell 0, hJ.k.cell 1, hJ.k.cell 2⟩
    by_cases hst : p < 0 ∨ c.l.length ≤ p
    · have HE : Hid (RR = ⟨[x0, x1, x2, x3, x4, x5, x6, x7], p, ms, -1, 11⟩) := Lib.hid (by rw [HR.out]; exact runL_out hst)
      obtain ⟨n0, n1, n2, n3, n4, n5, n6, n7, n8⟩ := hJ.r.cells
      have zf := Bk.free hJ.r
      clear HR
      by_cases hp0 : p < 0
      · clear hst
        go_upto_region 6 with fail
        obtain ⟨l9, b9, k9⟩ := hJ.ret (r0 := x0) (r1 := x1) (r2 := x2) (r3 := x3) (r4 := x4) (r5 := x5) (r6 := x6) (r7 := x7) (pc' := p)
        go_wp
        generalize hv9 : ((((((((((wr.setCell ⟨w.heap.size + 1 + 1, 0, none⟩ (.int .i64 x0)).setCell ⟨w.heap.size + 1 + 1, 1, none⟩ (.int .i64 x1)).setCell ⟨w.heap.size + 1 + 1, 2, none⟩ (.int .i64 x2)).setCell ⟨w.heap.size + 1 + 1, 3, none⟩ (.int .i64 x3)).setCell ⟨w.heap.size + 1 + 1, 4, none⟩ (.int .i64 x4)).setCell ⟨w.heap.size + 1 + 1, 5, none⟩ (.int .i64 x5)).setCell ⟨w.heap.size + 1 + 1, 6, none⟩ (.int .i64 x6)).setCell ⟨w.heap.size + 1 + 1, 7, none⟩ (.int .i64 x7)).setCell ⟨w.heap.size + 1 + 1, 8, none⟩ (.int .i64 p))) = v9
        replace hv9 : (put9 wr (w.heap.size + 1 + 1) (.int .i64 x0) (.int .i64 x1) (.int .i64 x2) (.int .i64 x3) (.int .i64 x4) (.int .i64 x5) (.int .i64 x6) (.int .i64 x7) (.int .i64 p)) = v9 := hv9
        rw [hv9] at l9 b9 k9
        obtain ⟨y0, y1, y2, y3, y4, y5, y6, y7, y8⟩ := k9.cells
        exact bodyPost_ret (v := .tuple #[.agg #[.int .i64 x0, .int .i64 x1, .int .i64 x2, .int .i64 x3, .int .i64 x4, .int .i64 x5, .int .i64 x6, .int .i64 x7, .int .i64 p], u10, .int .i64 (-1), .int .i64 11]) (by simp [results, Tryz.results50, go_sem, y0, y1, y2, y3, y4, y5, y6, y7, y8]) rfl ⟨_, by rw [HE.out]; rfl, by rw [HE.out]; exact l9, b9⟩
      · have hp1 : p ≥ c.l.length := by omega
        clear hst
        go_upto_region 6 with fail
        obtain ⟨l9, b9, k9⟩ := hJ.ret (r0 := x0) (r1 := x1) (r2 := x2) (r3 := x3) (r4 := x4) (r5 := x5) (r6 := x6) (r7 := x7) (pc' := p)
        go_wp
        generalize hv9 : ((((((((((wr.setCell ⟨w.heap.size + 1 + 1, 0, none⟩ (.int .i64 x0)).setCell ⟨w.heap.size + 1 + 1, 1, none⟩ (.int .i64 x1)).setCell ⟨w.heap.size + 1 + 1, 2, none⟩ (.int .i64 x2)).setCell ⟨w.heap.size + 1 + 1, 3, none⟩ (.int .i64 x3)).setCell ⟨w.heap.size + 1 + 1, 4, none⟩ (.int .i64 x4)).setCell ⟨w.heap.size + 1 + 1, 5, none⟩ (.int .i64 x5)).setCell ⟨w.heap.size + 1 + 1, 6, none⟩ (.int .i64 x6)).setCell ⟨w.heap.size + 1 + 1, 7, none⟩ (.int .i64 x7)).setCell ⟨w.heap.size + 1 + 1, 8, none⟩ (.int .i64 p))) = v9
        replace hv9 : (put9 wr (w.heap.size + 1 + 1) (.int .i64 x0) (.int .i64 x1) (.int .i64 x2) (.int .i64 x3) (.int .i64 x4) (.int .i64 x5) (.int .i64 x6) (.int .i64 x7) (.int .i64 p)) = v9 := hv9
        rw [hv9] at l9 b9 k9
        obtain ⟨y0, y1, y2, y3, y4, y5, y6, y7, y8⟩ := k9.cells
        exact bodyPost_ret (v := .tuple #[.agg #[.int .i64 x0, .int .i64 x1, .int .i64 x2, .int .i64 x3, .int .i64 x4, .int .i64 x5, .int .i64 x6, .int .i64 x7, .int .i64 p], u10, .int .i64 (-1), .int .i64 11]) (by simp [results, Tryz.results50, go_sem, y0, y1, y2, y3, y4, y5, y6, y7, y8]) rfl ⟨_, by rw [HE.out]; rfl, by rw [HE.out]; exact l9, b9⟩
    · obtain ⟨j, rfl⟩ : ∃ j : Nat, p = j := ⟨p.toNat, by omega⟩
      have hj : j < c.l.length := by omega
      have hji : (j : Int) < c.l.length := by omega
      have hji2 : decide ((j : Int) ≥ c.l.length) = false := by simpa using hj
      have hge := List.getElem?_eq_getElem hj
      have hOk := hi _ (List.getElem_mem hj)
      generalize c.l[j] = i at *
      have HON := Lib.hid (fun W => rOne [x0, x1, x2, x3, x4, x5, x6, x7] (j : Int) i self hxs hOk h0 h1 (by omega) (by omega) W)
      have hx2 := hxs.one hOk h0 h1
      have HSM : Hid (memB i.op = true → RR = ⟨[x0, x1, x2, x3, x4, x5, x6, x7], j, ms, -1, 0⟩) := Lib.hid fun hm => by rw [HR.out]; exact runL_mem hge hm
      have HSZ : Hid (memB i.op = false → k = 256 → RR = ⟨[x0, x1, x2, x3, x4, x5, x6, x7], j, ms, -1, 11⟩) := Lib.hid fun hm e => by rw [HR.out, e]; exact runL_zero hge hm
      have HSD : Hid (k ≠ 256 → i.op = 13 → RR = ⟨[x0, x1, x2, x3, x4, x5, x6, x7], j, ms, i.k, 0⟩) := Lib.hid fun hne hm => by rw [HR.out, show 256 - k = (255 - k) + 1 by omega]; exact runL_done hge hm
      have HSS : Hid (k ≠ 256 → memB i.op = false → i.op ≠ 13 → RR = runL self c.l (256 - (k + 1)) (oneR [x0, x1, x2, x3, x4, x5, x6, x7] i self) (oneP [x0, x1, x2, x3, x4, x5, x6, x7] j i) (if i.op = 12 then ms ++ [i.k] else ms)) := Lib.hid fun hne hm h13 => by rw [HR.out, show 256 - k = (256 - (k + 1)) + 1 by omega]; exact runL_step hge hm h13
      have hkk := hOk.k
      have hop := hOk.op
      generalize oneR [x0, x1, x2, x3, x4, x5, x6, x7] i self = XN at *
      generalize oneP [x0, x1, x2, x3, x4, x5, x6, x7] j i = PN at *
      obtain ⟨op, d, s, t, u, a', k', pl⟩ := i
      simp only at HON HSM HSD HSS HSZ hkk hop
      unfold iv rv at *
      simp only [rorC, List.map_cons, List.map_nil, List.cons_append, List.nil_append] at HON
      have HMB : Hid (memB op = decide (16 ≤ op)) := Lib.hid (by
        unfold memB
        rcases hop with h | h
        · simp; omega
        · simp [h.1, h.2])
      obtain ⟨g, off, rfl, hgl, f0, f1, f2, f3, f4, f5, f6, f7⟩ := (ha.below hJ.b).at_ hge
      simp only at f0 f1 f2 f3 f4 f5 f6 f7
      clear hst HR hOk hge ha hcn
      go_upto_region 8 with fail
      clear c0 c1 c2 c3 c4 c5 c6 c7 c8 k0 k1 k2 f0 f1 f2 f3 f4 f5 f6 f7
      have m2 := Jb.made wr op d s t u a' k' pl
      replace hJ := hJ.below ((Below.refl _ wr).alloc (o := .cells #[.int .i64 op, .int .i64 d, .int .i64 s, .int .i64 t, .int .i64 u, .int .i64 a', .int .u32 k', .int .i64 pl] 97) (Nat.le_refl _))
      have hq : w.heap.size ≠ wr.heap.size := by
        intro e
        rw [← e] at m2
        exact Bk.unlike m2 hJ.c (by decide) rfl
      have nq : wr.heap.size ≠ w.heap.size + 1 + 1 := Bk.unlike m2 hJ.r (by decide)
      generalize wr.heap.size = q at *
      generalize wr.alloc (.cells #[.int .i64 op, .int .i64 d, .int .i64 s, .int .i64 t, .int .i64 u, .int .i64 a', .int .u32 k', .int .i64 pl] 97) = z at *
      obtain ⟨e0, e1, e2, e3, e4, e5, e6, e7⟩ := m2.cells
      simp only at e0 e1 e2 e3 e4 e5 e6 e7
      obtain ⟨c0, c1, c2, c3, c4, c5, c6, c7, c8⟩ := hJ.c.cells
      by_cases h16 : 16 ≤ op
      · have HE := Lib.hid (HSM.out (by rw [HMB.out]; simpa using h16))
        obtain ⟨n0, n1, n2, n3, n4, n5, n6, n7, n8⟩ := hJ.r.cells
        have zf := Bk.free hJ.r
        clear HSM HSZ HSD HSS HON hop
        go_upto_region 9 with fail
        obtain ⟨l9, b9, k9⟩ := hJ.ret (r0 := x0) (r1 := x1) (r2 := x2) (r3 := x3) (r4 := x4) (r5 := x5) (r6 := x6) (r7 := x7) (pc' := j)
        go_wp
        generalize hv9 : ((((((((((z.setCell ⟨w.heap.size + 1 + 1, 0, none⟩ (.int .i64 x0)).setCell ⟨w.heap.size + 1 + 1, 1, none⟩ (.int .i64 x1)).setCell ⟨w.heap.size + 1 + 1, 2, none⟩ (.int .i64 x2)).setCell ⟨w.heap.size + 1 + 1, 3, none⟩ (.int .i64 x3)).setCell ⟨w.heap.size + 1 + 1, 4, none⟩ (.int .i64 x4)).setCell ⟨w.heap.size + 1 + 1, 5, none⟩ (.int .i64 x5)).setCell ⟨w.heap.size + 1 + 1, 6, none⟩ (.int .i64 x6)).setCell ⟨w.heap.size + 1 + 1, 7, none⟩ (.int .i64 x7)).setCell ⟨w.heap.size + 1 + 1, 8, none⟩ (.int .i64 j))) = v9
        replace hv9 : (put9 z (w.heap.size + 1 + 1) (.int .i64 x0) (.int .i64 x1) (.int .i64 x2) (.int .i64 x3) (.int .i64 x4) (.int .i64 x5) (.int .i64 x6) (.int .i64 x7) (.int .i64 j)) = v9 := hv9
        rw [hv9] at l9 b9 k9
        obtain ⟨y0, y1, y2, y3, y4, y5, y6, y7, y8⟩ := k9.cells
        exact bodyPost_ret (v := .tuple #[.agg #[.int .i64 x0, .int .i64 x1, .int .i64 x2, .int .i64 x3, .int .i64 x4, .int .i64 x5, .int .i64 x6, .int .i64 x7, .int .i64 j], u10, .int .i64 (-1), .int .i64 0]) (by simp [results, Tryz.results50, go_sem, y0, y1, y2, y3, y4, y5, y6, y7, y8]) rfl ⟨_, by rw [HE.out]; rfl, by rw [HE.out]; exact l9, b9⟩
      have hmf : Hid (memB op = false) := Lib.hid (by rw [HMB.out]; simpa using h16)
      have b16 : ¬ op ≥ 16 := by omega
      by_cases hk256 : k = 256
      · have HE := Lib.hid (HSZ.out hmf.out hk256)
        subst hk256
        obtain ⟨n0, n1, n2, n3, n4, n5, n6, n7, n8⟩ := hJ.r.cells
        have zf := Bk.free hJ.r
        clear HSM HSZ HSD HSS HON hop
        go_upto_region 11 with fail
        obtain ⟨l9, b9, k9⟩ := hJ.ret (r0 := x0) (r1 := x1) (r2 := x2) (r3 := x3) (r4 := x4) (r5 := x5) (r6 := x6) (r7 := x7) (pc' := j)
        go_wp
        generalize hv9 : ((((((((((z.setCell ⟨w.heap.size + 1 + 1, 0, none⟩ (.int .i64 x0)).setCell ⟨w.heap.size + 1 + 1, 1, none⟩ (.int .i64 x1)).setCell ⟨w.heap.size + 1 + 1, 2, none⟩ (.int .i64 x2)).setCell ⟨w.heap.size + 1 + 1, 3, none⟩ (.int .i64 x3)).setCell ⟨w.heap.size + 1 + 1, 4, none⟩ (.int .i64 x4)).setCell ⟨w.heap.size + 1 + 1, 5, none⟩ (.int .i64 x5)).setCell ⟨w.heap.size + 1 + 1, 6, none⟩ (.int .i64 x6)).setCell ⟨w.heap.size + 1 + 1, 7, none⟩ (.int .i64 x7)).setCell ⟨w.heap.size + 1 + 1, 8, none⟩ (.int .i64 j))) = v9
        replace hv9 : (put9 z (w.heap.size + 1 + 1) (.int .i64 x0) (.int .i64 x1) (.int .i64 x2) (.int .i64 x3) (.int .i64 x4) (.int .i64 x5) (.int .i64 x6) (.int .i64 x7) (.int .i64 j)) = v9 := hv9
        rw [hv9] at l9 b9 k9
        obtain ⟨y0, y1, y2, y3, y4, y5, y6, y7, y8⟩ := k9.cells
        exact bodyPost_ret (v := .tuple #[.agg #[.int .i64 x0, .int .i64 x1, .int .i64 x2, .int .i64 x3, .int .i64 x4, .int .i64 x5, .int .i64 x6, .int .i64 x7, .int .i64 j], u10, .int .i64 (-1), .int .i64 11]) (by simp [results, Tryz.results50, go_sem, y0, y1, y2, y3, y4, y5, y6, y7, y8]) rfl ⟨_, by rw [HE.out]; rfl, by rw [HE.out]; exact l9, b9⟩
      have hkne : ((k : Int) == 256) = false := by simp; omega
      by_cases h13 : op = 13
      · subst h13
        have HE := Lib.hid (HSD.out hk256 rfl)
        obtain ⟨n0, n1, n2, n3, n4, n5, n6, n7, n8⟩ := hJ.r.cells
        have zf := Bk.free hJ.r
        have n02 : w.heap.size ≠ w.heap.size + 1 + 1 := by omega
        clear HSM HSZ HSD HSS HON hop
        go_upto_region 13 with fail
        go_region
        obtain ⟨l9, b9, k9⟩ := hJ.ret (r0 := x0) (r1 := x1) (r2 := x2) (r3 := x3) (r4 := x4) (r5 := x5) (r6 := x6) (r7 := x7) (pc' := j)
        go_wp
        generalize hv9 : ((((((((((z.setCell ⟨w.heap.size + 1 + 1, 0, none⟩ (.int .i64 x0)).setCell ⟨w.heap.size + 1 + 1, 1, none⟩ (.int .i64 x1)).setCell ⟨w.heap.size + 1 + 1, 2, none⟩ (.int .i64 x2)).setCell ⟨w.heap.size + 1 + 1, 3, none⟩ (.int .i64 x3)).setCell ⟨w.heap.size + 1 + 1, 4, none⟩ (.int .i64 x4)).setCell ⟨w.heap.size + 1 + 1, 5, none⟩ (.int .i64 x5)).setCell ⟨w.heap.size + 1 + 1, 6, none⟩ (.int .i64 x6)).setCell ⟨w.heap.size + 1 + 1, 7, none⟩ (.int .i64 x7)).setCell ⟨w.heap.size + 1 + 1, 8, none⟩ (.int .i64 j))).drew = v9
        replace hv9 : (put9 z (w.heap.size + 1 + 1) (.int .i64 x0) (.int .i64 x1) (.int .i64 x2) (.int .i64 x3) (.int .i64 x4) (.int .i64 x5) (.int .i64 x6) (.int .i64 x7) (.int .i64 j)).drew = v9 := hv9
        replace l9 := lst_drew l9
        replace b9 := b9.drew
        replace k9 := rb_drew k9
        rw [hv9] at l9 b9 k9
        obtain ⟨y0, y1, y2, y3, y4, y5, y6, y7, y8⟩ := k9.cells
        exact bodyPost_ret (v := .tuple #[.agg #[.int .i64 x0, .int .i64 x1, .int .i64 x2, .int .i64 x3, .int .i64 x4, .int .i64 x5, .int .i64 x6, .int .i64 x7, .int .i64 j], u10, .int .i64 k', .int .i64 0]) (by simp [results, Tryz.results50, go_sem, y0, y1, y2, y3, y4, y5, y6, y7, y8]) rfl ⟨_, by rw [HE.out]; rfl, by rw [HE.out]; exact l9, b9⟩
      have b13 : (op == 13) = false := by simpa using h13
      obtain ⟨s0, s1, s2, s3, s4, s5, s6, s7, hsx⟩ := eight_cons hx2.1
      subst hsx
      simp only [List.map_cons, List.map_nil, List.cons_append, List.nil_append] at HON
      have HE := HSS.out hk256 hmf.out h13
      have hkl : k < 256 := by omega
      by_cases h12 : op = 12
      · rw [if_pos h12] at HE
        replace HE := Lib.hid HE
        subst h12
        clear HSM HSZ HSD HSS h16 h13 hk256 hop
        have hL := hJ.l
        go_upto_region 16 with (at_builtin; refine wpLstApp (by rfl) _ _ 25 (by rfl) 8 Tryz.underlying25 (by kernel_rfl) (by decide) hL (by rfl) k' (by rfl) (by omega) ?_; intro v' y' hL' hg hloc)
        clear c0 c1 c2 c3 c4 c5 c6 c7 c8 e0 e1 e2 e3 e4 e5 e6 e7
        have hJ3 := hJ.app hL' hg hown
        have hown2 : ∀ g, v'.ownBlock = some g → w.heap.size ≤ g := by
          intro g e
          rcases hloc with hl | hl
          · exact hown g (hl ▸ e)
          · rw [hl] at e
            injection e with e
            have := hJ.b.size
            omega
        replace m2 : Jb y' q _ := Bk.grown m2 hg fun e => by
          obtain ⟨cs, hcs⟩ := hL.bk e.symm
          exact Bk.unlike hcs m2 (by decide) rfl
        clear hJ hL hL' hg hloc
        have hJ := hJ3
        obtain ⟨e0, e1, e2, e3, e4, e5, e6, e7⟩ := m2.cells
        simp only at e0 e1 e2 e3 e4 e5 e6 e7
        obtain ⟨c0, c1, c2, c3, c4, c5, c6, c7, c8⟩ := hJ.c.cells
        go_wp2_with fail
        refine (HON.out _).mono ?_
        rintro e z2 ⟨rfl, hz⟩
        clear e0 e1 e2 e3 e4 e5 e6 e7 c0 c1 c2 c3 c4 c5 c6 c7 c8 HON m2
        replace hJ := hJ.below hz
        clear hz
        obtain ⟨c0, c1, c2, c3, c4, c5, c6, c7, c8⟩ := hJ.c.cells
        have zf := Bk.free hJ.c
        have hJ2 := hJ.one (s0 := s0) (s1 := s1) (s2 := s2) (s3 := s3) (s4 := s4) (s5 := s5) (s6 := s6) (s7 := s7) (pc' := PN)
        clear hJ
        go_upto_region 4 with fail
        clear c0 c1 c2 c3 c4 c5 c6 c7 c8 zf
        generalize hv : (((((((((z2.setCell ⟨w.heap.size, 0, none⟩ (.int .i64 s0)).setCell ⟨w.heap.size, 1, none⟩ (.int .i64 s1)).setCell ⟨w.heap.size, 2, none⟩ (.int .i64 s2)).setCell ⟨w.heap.size, 3, none⟩ (.int .i64 s3)).setCell ⟨w.heap.size, 4, none⟩ (.int .i64 s4)).setCell ⟨w.heap.size, 5, none⟩ (.int .i64 s5)).setCell ⟨w.heap.size, 6, none⟩ (.int .i64 s6)).setCell ⟨w.heap.size, 7, none⟩ (.int .i64 s7)).setCell ⟨w.heap.size, 8, none⟩ (.int .i64 PN)) = z3
        replace hv : put9 z2 w.heap.size (.int .i64 s0) (.int .i64 s1) (.int .i64 s2) (.int .i64 s3) (.int .i64 s4) (.int .i64 s5) (.int .i64 s6) (.int .i64 s7) (.int .i64 PN) = z3 := hv
        rw [hv] at hJ2
        clear hv
        go_wp2
        go_roundw
        case rel => exact ⟨k + 1, _, _, _, by go_num, by omega, hJ2, hown2, hx2, by simp; omega, HE⟩
        case measure =>
          show 256 - ((k : Int) + 1).toNat < 256 - (k : Int).toNat
          omega
      · rw [if_neg h12] at HE
        replace HE := Lib.hid HE
        have b12 : (op == 12) = false := by simpa using h12
        clear HSM HSZ HSD HSS h16 h13 h12 hk256 hop
        go_upto_region 16 with fail
        go_wp2_with fail
        refine (HON.out _).mono ?_
        rintro e z2 ⟨rfl, hz⟩
        clear e0 e1 e2 e3 e4 e5 e6 e7 c0 c1 c2 c3 c4 c5 c6 c7 c8 HON m2
        replace hJ := hJ.below hz
        clear hz
        obtain ⟨c0, c1, c2, c3, c4, c5, c6, c7, c8⟩ := hJ.c.cells
        have zf := Bk.free hJ.c
        have hJ2 := hJ.one (s0 := s0) (s1 := s1) (s2 := s2) (s3 := s3) (s4 := s4) (s5 := s5) (s6 := s6) (s7 := s7) (pc' := PN)
        clear hJ
        go_upto_region 4 with fail
        clear c0 c1 c2 c3 c4 c5 c6 c7 c8 zf
        generalize hv : (((((((((z2.setCell ⟨w.heap.size, 0, none⟩ (.int .i64 s0)).setCell ⟨w.heap.size, 1, none⟩ (.int .i64 s1)).setCell ⟨w.heap.size, 2, none⟩ (.int .i64 s2)).setCell ⟨w.heap.size, 3, none⟩ (.int .i64 s3)).setCell ⟨w.heap.size, 4, none⟩ (.int .i64 s4)).setCell ⟨w.heap.size, 5, none⟩ (.int .i64 s5)).setCell ⟨w.heap.size, 6, none⟩ (.int .i64 s6)).setCell ⟨w.heap.size, 7, none⟩ (.int .i64 s7)).setCell ⟨w.heap.size, 8, none⟩ (.int .i64 PN)) = z3
        replace hv : put9 z2 w.heap.size (.int .i64 s0) (.int .i64 s1) (.int .i64 s2) (.int .i64 s3) (.int .i64 s4) (.int .i64 s5) (.int .i64 s6) (.int .i64 s7) (.int .i64 PN) = z3 := hv
        rw [hv] at hJ2
        clear hv
        go_wp2
        go_roundw
        case rel => exact ⟨k + 1, _, _, _, by go_num, by omega, hJ2, hown, hx2, by omega, HE⟩
        case measure =>
          show 256 - ((k : Int) + 1).toNat < 256 - (k : Int).toNat
          omega
end Go.Proofs.YtpinpipjlongaaaGreat

/- A core that came in by value, opened; Begin; equality of cores; ints; awake. -/
namespace Go.Proofs.YtpinpipjlongaaaGreat
set_option maxRecDepth 100000
open Go.Joins Go.ChangeShapes Go.WideShapes Go.ChangeAt Go.RowKit Go.Deep
set_option linter.unusedVariables false

theorem own : ownKnob Tryz.prog.godebug = none := by kernel_rfl
theorem laidOut : laidOutB Tryz.prog = true := by kernel_rfl

section
variable {H : Type} {enc : TypeId × Value → H} {P : Program} {w : World} {base : Nat} {spare : Nat → Bool} {held : Bool}
end

theorem same1_i64 (a : Int) (d : Nat) (w : World) : (Op.equalIn (d + 1) 3 (.int .i64 a) (.int .i64 a)).run Tryz.prog w = .ok true w := by
  simp [Op.equalIn, run_underlying Tryz.underlying3]
theorem intInfo8 : (Tryz.prog.info? 3).isSome = true := by kernel_rfl
theorem same8_i64 (x0 x1 x2 x3 x4 x5 x6 x7 : Int) (d : Nat) (w : World) : (Op.equalIn (d + 1 + 1) 84 (.agg #[.int .i64 x0, .int .i64 x1, .int .i64 x2, .int .i64 x3, .int .i64 x4, .int .i64 x5, .int .i64 x6, .int .i64 x7]) (.agg #[.int .i64 x0, .int .i64 x1, .int .i64 x2, .int .i64 x3, .int .i64 x4, .int .i64 x5, .int .i64 x6, .int .i64 x7])).run Tryz.prog w = .ok true w := by
  obtain ⟨i, hi⟩ := Option.isSome_iff_exists.1 intInfo8
  have hc : Tryz.prog.cellsOf 3 = 1 := by kernel_rfl
  rw [run_equalIn_array w (d + 1) _ _ Tryz.underlying84 hi, hc, show List.range 8 = [0, 1, 2, 3, 4, 5, 6, 7] from rfl]
  simp [Op.eqItems, part, same1_i64]
set_option maxHeartbeats 2000000 in
theorem cBegin (c : Prg) (v : Value) (xs : List Int) (pc : Int) (self : Int) (unl : Bool) (w : World) (hv : Pv w v c) (hl : c.l.length ≤ 64) (hi : ∀ i ∈ c.l, OkI i) (hx : Eight xs) (h0 : 0 ≤ self) (h1 : self < 4294967296) :
    Calls Tryz.prog 27 #[cv xs pc, v, .int .i64 self, .bool unl] w (Ran w (runL self c.l 256 xs (if unl then c.un else c.lo) [])) := by
  have HE := Lib.hid (runL_eight hi h0 h1 256 xs (if unl then c.un else c.lo) [] hx)
  obtain ⟨RR, hRR⟩ : ∃ R, R = runL self c.l 256 xs (if unl then c.un else c.lo) [] := ⟨_, rfl⟩
  have HRun : Hid (∀ W v, Pv W v c → Calls Tryz.prog 31 #[cv xs (if unl then c.un else c.lo), v, .int .i64 self] W (Ran W RR)) := Lib.hid fun W v h => by rw [hRR]; exact cRun c v xs _ self W h hl hi hx h0 h1
  rw [← hRR] at HE ⊢
  clear hRR
  obtain ⟨a, ca, rfl, hc1, hc2, hcn, ha⟩ := hv
  obtain ⟨r0, r1, r2, r3, r4, r5, r6, r7, rfl⟩ := eight_cons hx.1
  have q0 : Cb (((w.alloc (.cells #[.int .u32 r0, .int .u32 r1, .int .u32 r2, .int .u32 r3, .int .u32 r4, .int .u32 r5, .int .u32 r6, .int .u32 r7, .int .i64 pc] 66)).alloc (.cells #[.slice a c.l.length ca, .int .i64 c.lo, .int .i64 c.un] 24)).alloc (.cells #[.int .u32 0, .int .u32 0, .int .u32 0, .int .u32 0, .int .u32 0, .int .u32 0, .int .u32 0, .int .u32 0, .int .i64 0] 66)) w.heap.size [r0, r1, r2, r3, r4, r5, r6, r7] pc := ((Cb.made w [r0, r1, r2, r3, r4, r5, r6, r7] pc).alloc (.cells #[.slice a c.l.length ca, .int .i64 c.lo, .int .i64 c.un] 24)).alloc (.cells #[.int .u32 0, .int .u32 0, .int .u32 0, .int .u32 0, .int .u32 0, .int .u32 0, .int .u32 0, .int .u32 0, .int .i64 0] 66)
  have q1 : Bk (((w.alloc (.cells #[.int .u32 r0, .int .u32 r1, .int .u32 r2, .int .u32 r3, .int .u32 r4, .int .u32 r5, .int .u32 r6, .int .u32 r7, .int .i64 pc] 66)).alloc (.cells #[.slice a c.l.length ca, .int .i64 c.lo, .int .i64 c.un] 24)).alloc (.cells #[.int .u32 0, .int .u32 0, .int .u32 0, .int .u32 0, .int .u32 0, .int .u32 0, .int .u32 0, .int .u32 0, .int .i64 0] 66)) (w.heap.size + 1) 24 #[.slice a c.l.length ca, .int .i64 c.lo, .int .i64 c.un] := by
    have := Bk.alloc (Bk.made (w.alloc (.cells #[.int .u32 r0, .int .u32 r1, .int .u32 r2, .int .u32 r3, .int .u32 r4, .int .u32 r5, .int .u32 r6, .int .u32 r7, .int .i64 pc] 66)) 24 #[.slice a c.l.length ca, .int .i64 c.lo, .int .i64 c.un]) (.cells #[.int .u32 0, .int .u32 0, .int .u32 0, .int .u32 0, .int .u32 0, .int .u32 0, .int .u32 0, .int .u32 0, .int .i64 0] 66)
    rw [World.size_alloc] at this
    exact this
  have q2 : Cb (((w.alloc (.cells #[.int .u32 r0, .int .u32 r1, .int .u32 r2, .int .u32 r3, .int .u32 r4, .int .u32 r5, .int .u32 r6, .int .u32 r7, .int .i64 pc] 66)).alloc (.cells #[.slice a c.l.length ca, .int .i64 c.lo, .int .i64 c.un] 24)).alloc (.cells #[.int .u32 0, .int .u32 0, .int .u32 0, .int .u32 0, .int .u32 0, .int .u32 0, .int .u32 0, .int .u32 0, .int .i64 0] 66)) (w.heap.size + 1 + 1) [0, 0, 0, 0, 0, 0, 0, 0] 0 := by
    have := Cb.made ((w.alloc (.cells #[.int .u32 r0, .int .u32 r1, .int .u32 r2, .int .u32 r3, .int .u32 r4, .int .u32 r5, .int .u32 r6, .int .u32 r7, .int .i64 pc] 66)).alloc (.cells #[.slice a c.l.length ca, .int .i64 c.lo, .int .i64 c.un] 24)) [0, 0, 0, 0, 0, 0, 0, 0] 0
    rw [World.size_alloc, World.size_alloc] at this
    exact this
  have b0 : Below w.heap.size w (((w.alloc (.cells #[.int .u32 r0, .int .u32 r1, .int .u32 r2, .int .u32 r3, .int .u32 r4, .int .u32 r5, .int .u32 r6, .int .u32 r7, .int .i64 pc] 66)).alloc (.cells #[.slice a c.l.length ca, .int .i64 c.lo, .int .i64 c.un] 24)).alloc (.cells #[.int .u32 0, .int .u32 0, .int .u32 0, .int .u32 0, .int .u32 0, .int .u32 0, .int .u32 0, .int .u32 0, .int .i64 0] 66)) := (((Below.refl _ _).alloc (Nat.le_refl _) _).alloc (by simp) _).alloc (by simp; omega) _
  unfold Ran cv at *
  simp only [corC, List.map_cons, List.map_nil, List.cons_append, List.nil_append] at HRun ⊢
  go_enter Tryz.func27, Tryz.ntmps27
  go_upto_region 1 with fail
  generalize ((w.alloc (.cells #[.int .u32 r0, .int .u32 r1, .int .u32 r2, .int .u32 r3, .int .u32 r4, .int .u32 r5, .int .u32 r6, .int .u32 r7, .int .i64 pc] 66)).alloc (.cells #[.slice a c.l.length ca, .int .i64 c.lo, .int .i64 c.un] 24)).alloc (.cells #[.int .u32 0, .int .u32 0, .int .u32 0, .int .u32 0, .int .u32 0, .int .u32 0, .int .u32 0, .int .u32 0, .int .i64 0] 66) = x at *
  obtain ⟨c0, c1, c2, c3, c4, c5, c6, c7, c8⟩ := q0.cells
  obtain ⟨k0, k1, k2⟩ : x.cell? ⟨w.heap.size + 1, 0, none⟩ = some (.slice a c.l.length ca) ∧ x.cell? ⟨w.heap.size + 1, 1, none⟩ = some (.int .i64 c.lo) ∧ x.cell? ⟨w.heap.size + 1, 2, none⟩ = some (.int .i64 c.un) := ⟨q1.cell 0, q1.cell 1, q1.cell 2⟩
  have zf := Bk.free q0
  go_upto_region 2 with fail
  have p0 : Cb (x.setCell ⟨w.heap.size, 8, none⟩ (.int .i64 c.lo)) w.heap.size [r0, r1, r2, r3, r4, r5, r6, r7] c.lo := Bk.put q0 8 (.int .i64 c.lo)
  have p1 := Bk.off q1 (p := ⟨w.heap.size, 8, none⟩) (by show w.heap.size + 1 ≠ w.heap.size; omega) (.int .i64 c.lo)
  have p2 : Cb (x.setCell ⟨w.heap.size, 8, none⟩ (.int .i64 c.lo)) _ _ _ := Bk.off q2 (p := ⟨w.heap.size, 8, none⟩) (by show w.heap.size + 1 + 1 ≠ w.heap.size; omega) (.int .i64 c.lo)
  have b1 := b0.setCell (p := ⟨w.heap.size, 8, none⟩) (Nat.le_refl _) (.int .i64 c.lo)
  clear q0 q1 q2 b0 c0 c1 c2 c3 c4 c5 c6 c7 c8 k0 k1 k2 zf
  generalize x.setCell ⟨w.heap.size, 8, none⟩ (.int .i64 c.lo) = y at *
  obtain ⟨c0, c1, c2, c3, c4, c5, c6, c7, c8⟩ := p0.cells
  obtain ⟨k0, k1, k2⟩ : y.cell? ⟨w.heap.size + 1, 0, none⟩ = some (.slice a c.l.length ca) ∧ y.cell? ⟨w.heap.size + 1, 1, none⟩ = some (.int .i64 c.lo) ∧ y.cell? ⟨w.heap.size + 1, 2, none⟩ = some (.int .i64 c.un) := ⟨p1.cell 0, p1.cell 1, p1.cell 2⟩
  cases unl
  · simp only [Bool.false_eq_true, if_false] at HRun
    go_upto_region 4 with fail
    have hPv : Pv y (.agg #[.slice a c.l.length ca, .int .i64 c.lo, .int .i64 c.un]) c := ⟨a, ca, rfl, hc1, hc2, hcn, ha.below b1⟩
    replace HRun := Lib.hid (HRun.out y _ hPv)
    clear hPv
    go_wp2_with fail
    refine HRun.out.mono ?_
    rintro e z ⟨m, rfl, hml, hz⟩
    clear c0 c1 c2 c3 c4 c5 c6 c7 c8 k0 k1 k2 HRun
    have hR : RunI w a c.l.length ca c.lo c.un m [r0, r1, r2, r3, r4, r5, r6, r7] c.lo RR.ms z := ⟨b1.trans (hz.mono b1.size), p0.below hz, (hz.block _ p1.lt).trans p1, p2.below hz, hml⟩
    clear p0 p1 p2 b1 hz hml
    obtain ⟨s0, s1, s2, s3, s4, s5, s6, s7, hs⟩ := eight_cons HE.out.1
    have HX := Lib.hid hs
    rw [hs]
    clear hs
    simp only [List.map_cons, List.map_nil, List.cons_append, List.nil_append]
    obtain ⟨n0, n1, n2, n3, n4, n5, n6, n7, n8⟩ := hR.r.cells
    have zf := Bk.free hR.r
    obtain ⟨l9, b9, k9⟩ := hR.ret (r0 := s0) (r1 := s1) (r2 := s2) (r3 := s3) (r4 := s4) (r5 := s5) (r6 := s6) (r7 := s7) (pc' := RR.pc)
    go_wp
    generalize hv9 : (((((((((z.setCell ⟨w.heap.size + 1 + 1, 0, none⟩ (.int .u32 s0)).setCell ⟨w.heap.size + 1 + 1, 1, none⟩ (.int .u32 s1)).setCell ⟨w.heap.size + 1 + 1, 2, none⟩ (.int .u32 s2)).setCell ⟨w.heap.size + 1 + 1, 3, none⟩ (.int .u32 s3)).setCell ⟨w.heap.size + 1 + 1, 4, none⟩ (.int .u32 s4)).setCell ⟨w.heap.size + 1 + 1, 5, none⟩ (.int .u32 s5)).setCell ⟨w.heap.size + 1 + 1, 6, none⟩ (.int .u32 s6)).setCell ⟨w.heap.size + 1 + 1, 7, none⟩ (.int .u32 s7)).setCell ⟨w.heap.size + 1 + 1, 8, none⟩ (.int .i64 RR.pc)) = v9
    replace hv9 : put9 z (w.heap.size + 1 + 1) (.int .u32 s0) (.int .u32 s1) (.int .u32 s2) (.int .u32 s3) (.int .u32 s4) (.int .u32 s5) (.int .u32 s6) (.int .u32 s7) (.int .i64 RR.pc) = v9 := hv9
    rw [hv9] at l9 b9 k9
    obtain ⟨y0, y1, y2, y3, y4, y5, y6, y7, y8⟩ := k9.cells
    exact bodyPost_ret (v := .tuple #[.agg #[.int .u32 s0, .int .u32 s1, .int .u32 s2, .int .u32 s3, .int .u32 s4, .int .u32 s5, .int .u32 s6, .int .u32 s7, .int .i64 RR.pc], m, .int .i64 RR.done, .int .i64 RR.e]) (by simp [results, Tryz.results27, go_sem, y0, y1, y2, y3, y4, y5, y6, y7, y8]) rfl ⟨m, by rw [HX.out]; rfl, l9, b9⟩
  · simp only [if_true] at HRun
    have zf := Bk.free p0
    go_upto_region 4 with fail
    have o0 : Cb (y.setCell ⟨w.heap.size, 8, none⟩ (.int .i64 c.un)) w.heap.size [r0, r1, r2, r3, r4, r5, r6, r7] c.un := Bk.put p0 8 (.int .i64 c.un)
    have o1 := Bk.off p1 (p := ⟨w.heap.size, 8, none⟩) (by show w.heap.size + 1 ≠ w.heap.size; omega) (.int .i64 c.un)
    have o2 : Cb (y.setCell ⟨w.heap.size, 8, none⟩ (.int .i64 c.un)) _ _ _ := Bk.off p2 (p := ⟨w.heap.size, 8, none⟩) (by show w.heap.size + 1 + 1 ≠ w.heap.size; omega) (.int .i64 c.un)
    have o3 := b1.setCell (p := ⟨w.heap.size, 8, none⟩) (Nat.le_refl _) (.int .i64 c.un)
    clear p0 p1 p2 b1 c0 c1 c2 c3 c4 c5 c6 c7 c8 k0 k1 k2 zf
    have p0 := o0
    have p1 := o1
    have p2 := o2
    have b1 := o3
    clear o0 o1 o2 o3
    generalize y.setCell ⟨w.heap.size, 8, none⟩ (.int .i64 c.un) = y at *
    obtain ⟨c0, c1, c2, c3, c4, c5, c6, c7, c8⟩ := p0.cells
    obtain ⟨k0, k1, k2⟩ : y.cell? ⟨w.heap.size + 1, 0, none⟩ = some (.slice a c.l.length ca) ∧ y.cell? ⟨w.heap.size + 1, 1, none⟩ = some (.int .i64 c.lo) ∧ y.cell? ⟨w.heap.size + 1, 2, none⟩ = some (.int .i64 c.un) := ⟨p1.cell 0, p1.cell 1, p1.cell 2⟩
    have hPv : Pv y (.agg #[.slice a c.l.length ca, .int .i64 c.lo, .int .i64 c.un]) c := ⟨a, ca, rfl, hc1, hc2, hcn, ha.below b1⟩
    replace HRun := Lib.hid (HRun.out y _ hPv)
    clear hPv
    go_wp2_with fail
    refine HRun.out.mono ?_
    rintro e z ⟨m, rfl, hml, hz⟩
    clear c0 c1 c2 c3 c4 c5 c6 c7 c8 k0 k1 k2 HRun
    have hR : RunI w a c.l.length ca c.lo c.un m [r0, r1, r2, r3, r4, r5, r6, r7] c.un RR.ms z := ⟨b1.trans (hz.mono b1.size), p0.below hz, (hz.block _ p1.lt).trans p1, p2.below hz, hml⟩
    clear p0 p1 p2 b1 hz hml
    obtain ⟨s0, s1, s2, s3, s4, s5, s6, s7, hs⟩ := eight_cons HE.out.1
    have HX := Lib.hid hs
    rw [hs]
    clear hs
    simp only [List.map_cons, List.map_nil, List.cons_append, List.nil_append]
    obtain ⟨n0, n1, n2, n3, n4, n5, n6, n7, n8⟩ := hR.r.cells
    have zf := Bk.free hR.r
    obtain ⟨l9, b9, k9⟩ := hR.ret (r0 := s0) (r1 := s1) (r2 := s2) (r3 := s3) (r4 := s4) (r5 := s5) (r6 := s6) (r7 := s7) (pc' := RR.pc)
    go_wp
    generalize hv9 : (((((((((z.setCell ⟨w.heap.size + 1 + 1, 0, none⟩ (.int .u32 s0)).setCell ⟨w.heap.size + 1 + 1, 1, none⟩ (.int .u32 s1)).setCell ⟨w.heap.size + 1 + 1, 2, none⟩ (.int .u32 s2)).setCell ⟨w.heap.size + 1 + 1, 3, none⟩ (.int .u32 s3)).setCell ⟨w.heap.size + 1 + 1, 4, none⟩ (.int .u32 s4)).setCell ⟨w.heap.size + 1 + 1, 5, none⟩ (.int .u32 s5)).setCell ⟨w.heap.size + 1 + 1, 6, none⟩ (.int .u32 s6)).setCell ⟨w.heap.size + 1 + 1, 7, none⟩ (.int .u32 s7)).setCell ⟨w.heap.size + 1 + 1, 8, none⟩ (.int .i64 RR.pc)) = v9
    replace hv9 : put9 z (w.heap.size + 1 + 1) (.int .u32 s0) (.int .u32 s1) (.int .u32 s2) (.int .u32 s3) (.int .u32 s4) (.int .u32 s5) (.int .u32 s6) (.int .u32 s7) (.int .i64 RR.pc) = v9 := hv9
    rw [hv9] at l9 b9 k9
    obtain ⟨y0, y1, y2, y3, y4, y5, y6, y7, y8⟩ := k9.cells
    exact bodyPost_ret (v := .tuple #[.agg #[.int .u32 s0, .int .u32 s1, .int .u32 s2, .int .u32 s3, .int .u32 s4, .int .u32 s5, .int .u32 s6, .int .u32 s7, .int .i64 RR.pc], m, .int .i64 RR.done, .int .i64 RR.e]) (by simp [results, Tryz.results27, go_sem, y0, y1, y2, y3, y4, y5, y6, y7, y8]) rfl ⟨m, by rw [HX.out]; rfl, l9, b9⟩

theorem lst_put9 {W : World} {m : Value} {ms : List Int} {g : Nat} {ty : TypeId} {cs : Array Value} (hl : Lst .i64 3 W m ms) (hk : Bk W g ty cs) (ht : ty ≠ 3) (a b c d e f h i j : Value) : Lst .i64 3 (put9 W g a b c d e f h i j) m ms := by
  have hW : Within W (put9 W g a b c d e f h i j) (fun x => x = g) := by
    unfold put9
    exact (((((((((Within.refl W (fun b => b = g)).put _ 0 _ (.inl rfl)).put _ 1 _ (.inl rfl)).put _ 2 _ (.inl rfl)).put _ 3 _ (.inl rfl)).put _ 4 _ (.inl rfl)).put _ 5 _ (.inl rfl)).put _ 6 _ (.inl rfl)).put _ 7 _ (.inl rfl)).put _ 8 _ (.inl rfl)
  refine hl.within hW fun x ex e2 => ?_
  obtain ⟨cs2, hcs⟩ := hl.bk ex
  exact Bk.unlike hcs hk (fun e => ht e.symm) e2
/-- What the document's run answers, as one value. -/
def TupR (v0 : Value) (ms : List Int) (D E : Int) (v : Value) (W : World) : Prop := ∃ m, v = .tuple #[v0, m, .int .i64 D, .int .i64 E] ∧ Lst .i64 3 W m ms
theorem TupR.below {v0 : Value} {ms : List Int} {D E : Int} {v : Value} {W W' : World} (h : TupR v0 ms D E v W) (hb : Below W.heap.size W W') : TupR v0 ms D E v W' := by
  obtain ⟨m, e, h⟩ := h
  exact ⟨m, e, lst_below h hb⟩

end Go.Proofs.YtpinpipjlongaaaGreat

/- A lock at work in memory; what the small functions of layer 10 (exec) return. -/
namespace Go.Proofs.YtpinpipjlongaaaGreat
set_option maxRecDepth 100000
open Go.ChangeShapes Go.WideShapes Go.ChangeAt Go.RowKit
set_option linter.unusedVariables false

/-- A list's elements from o on are others. -/
def putL : List Value → Nat → List Value → List Value
  | xs, _, [] => xs
  | xs, o, v :: vs => putL (xs.set o v) (o + 1) vs
/-- A block's cells from o on are others. -/
def putW (y : World) (g : Nat) : Nat → List Value → World
  | _, [] => y
  | o, v :: vs => putW (y.setCell ⟨g, o, none⟩ v) g (o + 1) vs
theorem putL_at : ∀ (vs xs : List Value) (o i : Nat), o + vs.length ≤ xs.length → (putL xs o vs)[i]? = if o ≤ i ∧ i < o + vs.length then vs[i - o]? else xs[i]?
  | [], xs, o, i, _ => by rw [putL, if_neg (by simp)]
  | v :: vs, xs, o, i, h => by
    simp only [List.length_cons] at h
    rw [putL, putL_at vs _ _ _ (by rw [List.length_set]; omega), List.length_cons]
    by_cases e : i = o
    · subst e
      rw [if_neg (by omega), if_pos (by omega), List.getElem?_set_self (by omega), Nat.sub_self]
      rfl
    · rw [List.getElem?_set_ne (fun e' => e e'.symm)]
      by_cases hi : o ≤ i ∧ i < o + (vs.length + 1)
      · rw [if_pos (by omega), if_pos hi, show i - o = (i - (o + 1)) + 1 by omega]
        rfl
      · rw [if_neg (by omega), if_neg hi]
theorem putW_bk {g : Nat} {t : TypeId} : ∀ (vs cs : List Value) (o : Nat) (y : World), Bk y g t cs.toArray → Bk (putW y g o vs) g t (putL cs o vs).toArray
  | [], cs, o, y, h => h
  | v :: vs, cs, o, y, h => by
    have h2 := h.put o v
    rw [List.setIfInBounds_toArray] at h2
    exact putW_bk vs _ (o + 1) _ h2
theorem putW_only {g : Nat} : ∀ (vs : List Value) (o : Nat) (y : World), Only y (putW y g o vs) g
  | [], o, y => grown_refl y _
  | v :: vs, o, y => grown_then (only_put y g o v) (putW_only vs (o + 1) _) (.inl rfl)
theorem corC_len {xs : List Int} {pc : Int} (h : xs.length = 8) : (corC xs pc).length = 9 := by simp [corC, h]
/-- The cores of n threads, one behind the other. -/
def coresC (cs : Nat → Cor) (n : Nat) : List Value := (List.range n).flatMap fun t => corC (cs t).xs (cs t).pc
theorem flat_len {α : Type} (f : α → List Value) (n : Nat) : ∀ (l : List α), (∀ x ∈ l, (f x).length = n) → (l.flatMap f).length = l.length * n
  | [], _ => by simp
  | x :: l, h => by
    rw [List.flatMap_cons, List.length_append, h x (by simp), flat_len f n l (fun y hy => h y (by simp [hy])), List.length_cons, Nat.add_mul]
    omega
theorem flat_at' {α : Type} (f : α → List Value) (n : Nat) : ∀ (l : List α), (∀ x ∈ l, (f x).length = n) → ∀ (k j : Nat) (x : α), l[k]? = some x → j < n → (l.flatMap f)[k * n + j]? = (f x)[j]?
  | [], _, k, j, x, h, _ => by simp at h
  | y :: l, hf, 0, j, x, h, hj => by
    simp at h
    subst h
    simp [List.getElem?_append, hf, hj]
  | y :: l, hf, k + 1, j, x, h, hj => by
    have ih := flat_at' f n l (fun z hz => hf z (by simp [hz])) k j x (by simpa using h) hj
    rw [← ih, List.flatMap_cons, show (k + 1) * n + j = n + (k * n + j) by rw [Nat.add_mul]; omega, List.getElem?_append_right (by rw [hf y (by simp)]; omega), hf y (by simp)]
    congr 1
    omega
section
variable {cs : Nat → Cor} {n : Nat}
theorem coresC_len (h : ∀ t, t < n → Eight (cs t).xs) : (coresC cs n).length = n * 9 := by
  unfold coresC
  rw [flat_len _ 9 _ (fun t ht => corC_len (h t (List.mem_range.1 ht)).1), List.length_range]
theorem coresC_at (h : ∀ t, t < n → Eight (cs t).xs) {t j : Nat} (ht : t < n) (hj : j < 9) : (coresC cs n)[t * 9 + j]? = (corC (cs t).xs (cs t).pc)[j]? :=
  flat_at' _ 9 _ (fun t ht => corC_len (h t (List.mem_range.1 ht)).1) t j t (by simp [ht]) hj
theorem coresC_put (h : ∀ t, t < n → Eight (cs t).xs) {t : Nat} (ht : t < n) {c : Cor} (hc : Eight c.xs) : putL (coresC cs n) (t * 9) (corC c.xs c.pc) = coresC (updN cs t c) n := by
  have h2 := updN_eight (n := n) h hc t
  apply List.ext_getElem?
  intro i
  have hl := coresC_len h
  have hl2 := coresC_len h2
  have hcl := corC_len (pc := c.pc) hc.1
  have hle : t * 9 + 9 ≤ n * 9 := by omega
  rw [putL_at _ _ _ _ (by rw [hcl, hl]; exact hle), hcl]
  by_cases hi : i < n * 9
  · obtain ⟨s, j, hs, hj, rfl⟩ : ∃ s j, s < n ∧ j < 9 ∧ i = s * 9 + j := ⟨i / 9, i % 9, by omega, by omega, by omega⟩
    rw [coresC_at h2 hs hj, coresC_at h hs hj]
    by_cases e : s = t
    · subst e
      rw [if_pos (by omega), updN_same, show s * 9 + j - s * 9 = j by omega]
    · rw [if_neg (by omega), updN_other e]
  · rw [if_neg (by omega), List.getElem?_eq_none (by omega), List.getElem?_eq_none (by omega)]
end

theorem Mm.within {w w' : World} {p q g s : Nat} {zs xs : List Int} {S : Nat → Prop} (h : Mm w p q g s zs xs) (k : Within w w' S) (h1 : ¬ S p) (h2 : ¬ S q) (h3 : ¬ S g) (h4 : ¬ S s) : Mm w' p q g s zs xs :=
  ⟨h.ptr.within k h1, ⟨h.cel.ptr.within k h2, h.cel.row.within k h3, h.cel.rng, h.cel.few⟩, h.row.within k h4, h.right, h.len⟩
/-- Nodes, wherever they lie. -/
def PoolAt (w : World) (p n each : Nat) (M : PM) (pn : Pn) : Prop := ∃ fr os c, Pl w p n each M fr os c ∧ Same n each pn.free pn.gen pn.out fr os c

/-- Where a lock at work lies. -/
structure XP where
  x : Nat
  cv : Value
  kb : Nat
  p : Nat
  q : Nat
  g : Nat
  s : Nat
  pp : Nat
  M : PM
/-- All its blocks; those that calls may change. -/
def XP.Own (X : XP) (n i : Nat) : Prop := i = X.x ∨ X.cv.ownBlock = some i ∨ i = X.kb ∨ i = X.p ∨ i = X.q ∨ i = X.g ∨ i = X.s ∨ i = X.pp ∨ i = X.M.g ∨ X.M.Has n i
def XP.Has (X : XP) (n i : Nat) : Prop := i = X.kb ∨ i = X.g ∨ X.M.Has n i
theorem XP.has_own {X : XP} {n i : Nat} (h : X.Has n i) : X.Own n i := by
  rcases h with h | h | h
  · exact .inr (.inr (.inl h))
  · exact .inr (.inr (.inr (.inr (.inr (.inl h)))))
  · exact .inr (.inr (.inr (.inr (.inr (.inr (.inr (.inr (.inr h))))))))
/-- A lock at work. -/
structure Ex (w : World) (X : XP) (k : Lk) (m : Mc) : Prop where
  ptr : Bk w X.x 78 #[X.cv, .int .i64 k.lo, .int .i64 k.un, .pointer (some ⟨X.p, 0, none⟩), .pointer (some ⟨X.pp, 0, none⟩), .slice (some ⟨X.kb, 0, none⟩) k.n k.n]
  code : w.ownsRow 0 45 8 X.cv k.l.length (progC k.l)
  cores : Bk w X.kb 66 (coresC m.cs k.n).toArray
  mem : Mm w X.p X.q X.g X.s k.zs m.ws
  pool : PoolAt w X.pp k.n k.each X.M m.pn
  lk : OkLk k
  mc : OkMc k m

section
variable {w w' : World} {X : XP} {k : Lk} {m : Mc}
theorem Ex.kept {S : Nat → Prop} (h : Ex w X k m) (hw : Within w w' S) (hn : ∀ i, X.Own k.n i → ¬ S i) : Ex w' X k m := by
  obtain ⟨fr, os, c, hp, hs⟩ := h.pool
  unfold XP.Own at hn
  exact ⟨h.ptr.within hw (hn _ (.inl rfl)), own_within h.code hw (fun g e => hn g (.inr (.inl e))), h.cores.within hw (hn _ (.inr (.inr (.inl rfl)))),
    h.mem.within hw (hn _ (.inr (.inr (.inr (.inl rfl))))) (hn _ (.inr (.inr (.inr (.inr (.inl rfl)))))) (hn _ (.inr (.inr (.inr (.inr (.inr (.inl rfl))))))) (hn _ (.inr (.inr (.inr (.inr (.inr (.inr (.inl rfl)))))))),
    ⟨fr, os, c, hp.kept hw (hn _ (.inr (.inr (.inr (.inr (.inr (.inr (.inr (.inl rfl))))))))) (hn _ (.inr (.inr (.inr (.inr (.inr (.inr (.inr (.inr (.inl rfl)))))))))) (fun i hi => hn i (.inr (.inr (.inr (.inr (.inr (.inr (.inr (.inr (.inr hi)))))))))), hs⟩, h.lk, h.mc⟩
theorem Ex.below (h : Ex w X k m) (hb : Below w.heap.size w w') : Ex w' X k m := h.kept (within_of_below hb) (by simp)
theorem Ex.lt (h : Ex w X k m) {i : Nat} (hi : X.Own k.n i) : i < w.heap.size := by
  obtain ⟨fr, os, c, hp, hs⟩ := h.pool
  rcases hi with rfl | e | rfl | rfl | rfl | rfl | rfl | rfl | rfl | e
  · exact h.ptr.lt
  · exact (World.ownsRow.lt h.code i e).2
  · exact h.cores.lt
  · exact h.mem.ptr.lt
  · exact h.mem.cel.ptr.lt
  · exact h.mem.cel.row.lt
  · exact h.mem.row.lt
  · exact hp.p_lt
  · exact hp.g_lt
  · exact hp.lt e
theorem Ex.c0 (h : Ex w X k m) : w.cell? ⟨X.x, 0, none⟩ = some X.cv := by rw [h.ptr.cell]; rfl
theorem Ex.c1 (h : Ex w X k m) : w.cell? ⟨X.x, 1, none⟩ = some (.int .i64 k.lo) := by rw [h.ptr.cell]; rfl
theorem Ex.c2 (h : Ex w X k m) : w.cell? ⟨X.x, 2, none⟩ = some (.int .i64 k.un) := by rw [h.ptr.cell]; rfl
theorem Ex.c3 (h : Ex w X k m) : w.cell? ⟨X.x, 3, none⟩ = some (.pointer (some ⟨X.p, 0, none⟩)) := by rw [h.ptr.cell]; rfl
theorem Ex.c4 (h : Ex w X k m) : w.cell? ⟨X.x, 4, none⟩ = some (.pointer (some ⟨X.pp, 0, none⟩)) := by rw [h.ptr.cell]; rfl
theorem Ex.c5 (h : Ex w X k m) : w.cell? ⟨X.x, 5, none⟩ = some (.slice (some ⟨X.kb, 0, none⟩) k.n k.n) := by rw [h.ptr.cell]; rfl
/-- Its program, as a value. -/
theorem Ex.pv (h : Ex w X k m) : Pv w (.agg #[X.cv, .int .i64 k.lo, .int .i64 k.un]) ⟨k.l, k.lo, k.un⟩ ∧ ∃ a cap, X.cv = .slice a k.l.length cap := by
  obtain ⟨a, cap, e, h1, h2, _⟩ := own_is h.code
  have ho := h.code
  rw [e] at ho ⊢
  exact ⟨⟨a, cap, rfl, h1, h2, own_nil ho, sli_own ho⟩, a, cap, rfl⟩
/-- Thread t's core. -/
theorem Ex.core_at (h : Ex w X k m) {t : Nat} (ht : t < k.n) {j : Nat} (hj : j < 9) : w.cell? ⟨X.kb, t * 9 + j, none⟩ = (corC (m.cs t).xs (m.cs t).pc)[j]? := by
  rw [h.cores.cell, List.getElem?_toArray, coresC_at h.mc.cs ht hj]
theorem Ex.core (h : Ex w X k m) {t : Nat} (ht : t < k.n) {r0 r1 r2 r3 r4 r5 r6 r7 pc : Int} (e : m.cs t = ⟨[r0, r1, r2, r3, r4, r5, r6, r7], pc⟩) :
    w.cell? ⟨X.kb, t * 9, none⟩ = some (.int .u32 r0) ∧ w.cell? ⟨X.kb, t * 9 + 1, none⟩ = some (.int .u32 r1) ∧ w.cell? ⟨X.kb, t * 9 + 2, none⟩ = some (.int .u32 r2) ∧ w.cell? ⟨X.kb, t * 9 + 3, none⟩ = some (.int .u32 r3) ∧
    w.cell? ⟨X.kb, t * 9 + 4, none⟩ = some (.int .u32 r4) ∧ w.cell? ⟨X.kb, t * 9 + 5, none⟩ = some (.int .u32 r5) ∧ w.cell? ⟨X.kb, t * 9 + 6, none⟩ = some (.int .u32 r6) ∧ w.cell? ⟨X.kb, t * 9 + 7, none⟩ = some (.int .u32 r7) ∧ w.cell? ⟨X.kb, t * 9 + 8, none⟩ = some (.int .i64 pc) := by
  have H := fun j (hj : j < 9) => h.core_at ht hj
  rw [e] at H
  exact ⟨H 0 (by omega), H 1 (by omega), H 2 (by omega), H 3 (by omega), H 4 (by omega), H 5 (by omega), H 6 (by omega), H 7 (by omega), H 8 (by omega)⟩
theorem Ex.core_cons (h : Ex w X k m) {t : Nat} (ht : t < k.n) : ∃ r0 r1 r2 r3 r4 r5 r6 r7 pc, m.cs t = ⟨[r0, r1, r2, r3, r4, r5, r6, r7], pc⟩ := by
  obtain ⟨r0, r1, r2, r3, r4, r5, r6, r7, e⟩ := eight_cons (h.mc.cs t ht).1
  exact ⟨r0, r1, r2, r3, r4, r5, r6, r7, (m.cs t).pc, by rw [← e]⟩
theorem Ex.free (h : Ex w X k m) (i : Nat) : w.frozen? ⟨X.kb, i, none⟩ = false := h.cores.free i

/-- Thread t's core is another. -/
theorem Ex.put (h : Ex w X k m) {t : Nat} (ht : t < k.n) {c : Cor} (hc : Eight c.xs) : Ex (putW w X.kb (t * 9) (corC c.xs c.pc)) X k { m with cs := updN m.cs t c } := by
  have hW : Within w (putW w X.kb (t * 9) (corC c.xs c.pc)) (fun i => i = X.kb) := .of_grown (putW_only _ _ _) (by rintro i e; injection e with e; exact .inl e.symm)
  obtain ⟨fr, os, cn, hp, hs⟩ := h.pool
  have hb := putW_bk (corC c.xs c.pc) _ (t * 9) _ h.cores
  rw [coresC_put h.mc.cs ht hc] at hb
  refine ⟨h.ptr.within hW (Bk.unlike h.ptr h.cores (by decide)), own_within h.code hW (fun g e e2 => ?_), hb, h.mem.within hW (Bk.unlike h.mem.ptr h.cores (by decide)) (Bk.unlike h.mem.cel.ptr h.cores (by decide)) (Bk.unlike h.mem.cel.row h.cores (by decide)) (Bk.unlike h.mem.row h.cores (by decide)),
    ⟨fr, os, cn, hp.kept hW (Bk.unlike hp.ptr h.cores (by decide)) (Bk.unlike hp.row h.cores (by decide)) (fun i hi e => hp.not_has h.cores (by decide) (by decide) (e ▸ hi)), hs⟩, h.lk, ⟨h.mc.ws, h.mc.len, updN_eight h.mc.cs hc t⟩⟩
  obtain ⟨cs', hcs⟩ := own_bk h.code e
  exact Bk.unlike hcs h.cores (by decide) e2
/-- Its words are others. -/
theorem Ex.words (h : Ex w X k m) {ys : List Int} (hm : Mm w' X.p X.q X.g X.s k.zs ys) (ho : Only w w' X.g) (hu : U32s ys) (hl : ys.length = m.ws.length) : Ex w' X k { m with ws := ys } := by
  have hW : Within w w' (fun i => i = X.g) := .of_grown ho (by rintro i e; injection e with e; exact .inl e.symm)
  obtain ⟨fr, os, cn, hp, hs⟩ := h.pool
  have hr := h.mem.cel.row
  refine ⟨h.ptr.within hW (Bk.unlike h.ptr hr (by decide)), own_within h.code hW (fun g e e2 => ?_), h.cores.within hW (Bk.unlike h.cores hr (by decide)), hm,
    ⟨fr, os, cn, hp.kept hW (Bk.unlike hp.ptr hr (by decide)) (Bk.unlike hp.row hr (by decide)) (fun i hi e => hp.not_has hr (by decide) (by decide) (e ▸ hi)), hs⟩, h.lk, ⟨hu, hl.trans h.mc.len, h.mc.cs⟩⟩
  obtain ⟨cs', hcs⟩ := own_bk h.code e
  exact Bk.unlike hcs hr (by decide) e2
/-- Its nodes are others. -/
theorem Ex.nodes (h : Ex w X k m) {fr fr' : Nat → List Int} {os os' : Int → Bool} {c c' : Nat} {M' : PM} {pn' : Pn} (hp : Pl w X.pp k.n k.each X.M fr os c) (hp' : Pl w' X.pp k.n k.each M' fr' os' c') (hs : Same k.n k.each pn'.free pn'.gen pn'.out fr' os' c') (hst : Stays w k.n X.M w' M') : Ex w' { X with M := M' } k { m with pn := pn' } := by
  have hW := hst.2.1
  have nh : ∀ {q : Nat} {t : TypeId} {cs : Array Value}, Bk w q t cs → t ≠ 179 → t ≠ 43 → ¬ X.M.Has k.n q := fun hb h1 h2 => hp.not_has hb h1 h2
  refine ⟨h.ptr.within hW (nh h.ptr (by decide) (by decide)), own_within h.code hW (fun g e e2 => ?_), h.cores.within hW (nh h.cores (by decide) (by decide)), h.mem.within hW (nh h.mem.ptr (by decide) (by decide)) (nh h.mem.cel.ptr (by decide) (by decide)) (nh h.mem.cel.row (by decide) (by decide)) (nh h.mem.row (by decide) (by decide)),
    ⟨fr', os', c', hp', hs⟩, h.lk, ⟨h.mc.ws, h.mc.len, h.mc.cs⟩⟩
  obtain ⟨cs', hcs⟩ := own_bk h.code e
  exact nh hcs (by decide) (by decide) e2

/-- Behind a call: only what may change has changed; what is the lock's now was so, or is new. -/
def XStays (w : World) (n : Nat) (X : XP) (w' : World) (X' : XP) : Prop := Within w w' (X.Has n) ∧ (∀ i, X'.Own n i → X.Own n i ∨ w.heap.size ≤ i) ∧ (∀ i, X'.Has n i → X.Has n i ∨ w.heap.size ≤ i)
theorem XStays.refl (w : World) (n : Nat) (X : XP) : XStays w n X w X := ⟨Within.refl _ _, fun _ h => .inl h, fun _ h => .inl h⟩
theorem XStays.then_ {n : Nat} {w'' : World} {X' X'' : XP} (h : XStays w n X w' X') (k : XStays w' n X' w'' X'') : XStays w n X w'' X'' :=
  ⟨h.1.then_ k.1 h.2.2, fun i hi => by
    rcases k.2.1 i hi with e | e
    · exact h.2.1 i e
    · exact .inr (Nat.le_trans h.1.size e), fun i hi => by
    rcases k.2.2 i hi with e | e
    · exact h.2.2 i e
    · exact .inr (Nat.le_trans h.1.size e)⟩
theorem XStays.grown {n : Nat} {X' : XP} {w'' : World} (h : XStays w n X w' X') (k : Below w'.heap.size w' w'') : XStays w n X w'' X' :=
  h.then_ ⟨(within_of_below k).wide (by simp), fun _ h => .inl h, fun _ h => .inl h⟩
theorem XStays.of_grown {n : Nat} (k : Below w.heap.size w w') : XStays w n X w' X := (XStays.refl w n X).grown k
theorem XStays.put {n t : Nat} {vs : List Value} : XStays w n X (putW w X.kb t vs) X := ⟨.of_grown (putW_only _ _ _) (by rintro i e; injection e with e; exact .inl (.inl e.symm)), fun _ h => .inl h, fun _ h => .inl h⟩
theorem XStays.words {n : Nat} (ho : Only w w' X.g) : XStays w n X w' X := ⟨.of_grown ho (by rintro i e; injection e with e; exact .inl (.inr (.inl e.symm))), fun _ h => .inl h, fun _ h => .inl h⟩
theorem XStays.nodes {n : Nat} {M' : PM} (hs : Stays w n X.M w' M') : XStays w n X w' { X with M := M' } := by
  refine ⟨hs.2.1.wide (fun i e _ => .inr (.inr e)), fun i hi => ?_, fun i hi => ?_⟩
  · rcases hi with e | e | e | e | e | e | e | e | e | e
    · exact .inl (.inl e)
    · exact .inl (.inr (.inl e))
    · exact .inl (.inr (.inr (.inl e)))
    · exact .inl (.inr (.inr (.inr (.inl e))))
    · exact .inl (.inr (.inr (.inr (.inr (.inl e)))))
    · exact .inl (.inr (.inr (.inr (.inr (.inr (.inl e))))))
    · exact .inl (.inr (.inr (.inr (.inr (.inr (.inr (.inl e)))))))
    · exact .inl (.inr (.inr (.inr (.inr (.inr (.inr (.inr (.inl e))))))))
    · exact .inl (.inr (.inr (.inr (.inr (.inr (.inr (.inr (.inr (.inl (e.trans hs.1))))))))))
    · rcases hs.2.2 i e with e | e
      · exact .inl (.inr (.inr (.inr (.inr (.inr (.inr (.inr (.inr (.inr e)))))))))
      · exact .inr e
  · rcases hi with e | e | e
    · exact .inl (.inl e)
    · exact .inl (.inr (.inl e))
    · rcases hs.2.2 i e with e | e
      · exact .inl (.inr (.inr e))
      · exact .inr e

/-- What a step comes to, as a value. -/
def otV (v : Value) (o : Ot) : Value := .agg #[v, .int .i64 o.done, .int .i64 o.addr, .bool o.wrote, .bool o.stay, .int .i64 o.e]

theorem xThread (h : Ex w X k m) (t : Nat) (ht : t < k.n) :
    Calls Tryz.prog 25 #[.pointer (some ⟨X.x, 0, none⟩), .int .i64 t] w fun e w' => e = .returned (.bool true) ∧ w = w' := by
  have c5 := h.c5
  have hf := h.lk.n64
  go_enter Tryz.func25, Tryz.ntmps25
  go_wp2
  go_ret
  exact ⟨rfl, rfl⟩

theorem xTrap (w : World) :
    Calls Tryz.prog 26 #[] w fun e w' => e = .returned (otV (.slice none 0 0) trapO) ∧ Below w.heap.size w w' := by
  unfold otV trapO
  go_enter Tryz.func26, Tryz.ntmps26
  go_wp2
  refine bodyPost_ret (v := .agg #[.slice none 0 0, .int .i64 (-1), .int .i64 (-1), .bool false, .bool false, .int .i64 11]) (by simp [results, Tryz.results26, go_sem]) rfl ⟨rfl, (Below.refl _ _).alloc (Nat.le_refl _) _⟩

theorem xThreads (h : Ex w X k m) :
    Calls Tryz.prog 36 #[.pointer (some ⟨X.x, 0, none⟩)] w fun e w' => e = .returned (.int .i64 k.n) ∧ w = w' := by
  have c5 := h.c5
  have hf := h.lk.n64
  go_enter Tryz.func36, Tryz.ntmps36
  go_wp2
  go_ret
  exact ⟨rfl, rfl⟩

theorem xOut (h : Ex w X k m) (t : Nat) (ht : t < k.n) :
    Calls Tryz.prog 38 #[.pointer (some ⟨X.x, 0, none⟩), .int .i64 t] w fun e w' => e = .returned (.int .i64 (manyN k.each m.pn t)) ∧ ∃ j, w' = w.drewN j := by
  obtain ⟨fr, os, c, hp, hs⟩ := h.pool
  have c4 := h.c4
  have hfr := hs.frs t ht
  have hle : (m.pn.free t).length ≤ k.each := by
    have h1 := hs.own t ht
    exact nodup_len k.each (t * k.each) _ (hs.dup t ht) (fun q hq => ⟨(h1 q hq).1, (h1 q hq).2.1⟩)
  have E : Hid (((k.each - (fr t).length : Nat) : Int) = manyN k.each m.pn t) := Lib.hid (by rw [hfr, List.length_map]; unfold manyN; omega)
  clear hfr hle hs
  go_enter Tryz.func38, Tryz.ntmps38
  go_wp2_with fail
  refine (plOut hp t ht).mono ?_
  rintro e w' ⟨rfl, j, rfl⟩
  rw [E.out]
  go_wp2
  go_ret
  exact ⟨rfl, _, rfl⟩

theorem xWords (h : Ex w X k m) :
    Calls Tryz.prog 35 #[.pointer (some ⟨X.x, 0, none⟩)] w (Told w X.q X.g m.ws) := by
  have c3 := h.c3
  have d0 := h.mem.c0
  have hc := h.mem.cel
  go_enter Tryz.func35, Tryz.ntmps35
  go_wp2_with fail
  refine (cWords hc).mono ?_
  rintro e w' ⟨q, rfl, h1, h2, h3, h4⟩
  go_wp2
  go_ret
  exact ⟨q, rfl, h1, h2, h3, h4⟩
end
end Go.Proofs.YtpinpipjlongaaaGreat

/- Layer 10 (exec): a thread's core, the instruction at which it stands, await. -/
namespace Go.Proofs.YtpinpipjlongaaaGreat
set_option maxRecDepth 100000
open Go.ChangeShapes Go.WideShapes Go.ChangeAt Go.RowKit
set_option linter.unusedVariables false
section
variable {w w' : World} {X : XP} {k : Lk} {m : Mc}

set_option maxHeartbeats 1000000 in
theorem xCore (h : Ex w X k m) (t : Nat) (ht : t < k.n) :
    Calls Tryz.prog 19 #[.pointer (some ⟨X.x, 0, none⟩), .int .i64 t] w fun e w' => e = .returned (cv (m.cs t).xs (m.cs t).pc) ∧ Below w.heap.size w w' := by
  have hf := h.lk.n64
  obtain ⟨r0, r1, r2, r3, r4, r5, r6, r7, pc, ec⟩ := h.core_cons ht
  have h2 := h.below ((Below.refl _ w).alloc (Nat.le_refl _) (.cells #[.int .u32 0, .int .u32 0, .int .u32 0, .int .u32 0, .int .u32 0, .int .u32 0, .int .u32 0, .int .u32 0, .int .i64 0] 66))
  have q0 := Cb.made w [0, 0, 0, 0, 0, 0, 0, 0] 0
  have b0 : Below w.heap.size w (w.alloc (.cells #[.int .u32 0, .int .u32 0, .int .u32 0, .int .u32 0, .int .u32 0, .int .u32 0, .int .u32 0, .int .u32 0, .int .i64 0] 66)) := (Below.refl _ _).alloc (Nat.le_refl _) _
  simp only [corC, List.map_cons, List.map_nil, List.cons_append, List.nil_append] at q0
  rw [ec]
  unfold cv
  simp only [corC, List.map_cons, List.map_nil, List.cons_append, List.nil_append]
  go_enter Tryz.func19, Tryz.ntmps19
  go_upto_region 1 with fail
  generalize w.alloc (.cells #[.int .u32 0, .int .u32 0, .int .u32 0, .int .u32 0, .int .u32 0, .int .u32 0, .int .u32 0, .int .u32 0, .int .i64 0] 66) = x at *
  go_wp2_with fail
  refine (xThread h2 t ht).mono ?_
  rintro e w' ⟨rfl, rfl⟩
  have c5 := h2.c5
  obtain ⟨c0, c1, c2, c3, c4, c5', c6, c7, c8⟩ := h2.core ht ec
  have zf := Bk.free q0
  obtain ⟨z0, z1, z2, z3, z4, z5, z6, z7, z8⟩ := q0.cells
  go_upto_region 3 with fail
  have h9 := put9_bk q0 (.int .u32 r0) (.int .u32 r1) (.int .u32 r2) (.int .u32 r3) (.int .u32 r4) (.int .u32 r5) (.int .u32 r6) (.int .u32 r7) (.int .i64 pc)
  have b9 := put9_below b0 (Nat.le_refl _) (.int .u32 r0) (.int .u32 r1) (.int .u32 r2) (.int .u32 r3) (.int .u32 r4) (.int .u32 r5) (.int .u32 r6) (.int .u32 r7) (.int .i64 pc)
  go_wp
  generalize hv9 : (((((((((x.setCell ⟨w.heap.size, 0, none⟩ (.int .u32 r0)).setCell ⟨w.heap.size, 1, none⟩ (.int .u32 r1)).setCell ⟨w.heap.size, 2, none⟩ (.int .u32 r2)).setCell ⟨w.heap.size, 3, none⟩ (.int .u32 r3)).setCell ⟨w.heap.size, 4, none⟩ (.int .u32 r4)).setCell ⟨w.heap.size, 5, none⟩ (.int .u32 r5)).setCell ⟨w.heap.size, 6, none⟩ (.int .u32 r6)).setCell ⟨w.heap.size, 7, none⟩ (.int .u32 r7)).setCell ⟨w.heap.size, 8, none⟩ (.int .i64 pc)) = v9
  replace hv9 : put9 x w.heap.size (.int .u32 r0) (.int .u32 r1) (.int .u32 r2) (.int .u32 r3) (.int .u32 r4) (.int .u32 r5) (.int .u32 r6) (.int .u32 r7) (.int .i64 pc) = v9 := hv9
  rw [hv9] at h9 b9
  obtain ⟨y0, y1, y2, y3, y4, y5, y6, y7, y8⟩ := Cb.cells (r0 := r0) (r1 := r1) (r2 := r2) (r3 := r3) (r4 := r4) (r5 := r5) (r6 := r6) (r7 := r7) (pc := pc) h9
  exact bodyPost_ret (v := .agg #[.int .u32 r0, .int .u32 r1, .int .u32 r2, .int .u32 r3, .int .u32 r4, .int .u32 r5, .int .u32 r6, .int .u32 r7, .int .i64 pc]) (by simp [results, Tryz.results19, go_sem, y0, y1, y2, y3, y4, y5, y6, y7, y8]) rfl ⟨rfl, b9⟩

/-- No instruction of the memory stands there. -/
def NoInst (w : World) (e : Ending) (w' : World) : Prop := e = .returned (.tuple #[iv Ins.zero, .bool false]) ∧ Below w.heap.size w w'
/-- This one stands there. -/
def OneInst (w : World) (i : Ins) (e : Ending) (w' : World) : Prop := e = .returned (.tuple #[iv i, .bool true]) ∧ Below w.heap.size w w'

set_option maxHeartbeats 2000000 in
theorem xStandNone (h : Ex w X k m) (t : Nat) (ht : t < k.n) (hn : memI k (m.cs t).pc = none) :
    Calls Tryz.prog 29 #[.pointer (some ⟨X.x, 0, none⟩), .int .i64 t] w (NoInst w) := by
  have hf := h.lk.n64
  have hl := h.lk.parts
  obtain ⟨r0, r1, r2, r3, r4, r5, r6, r7, pc, ec⟩ := h.core_cons ht
  rw [ec] at hn
  simp only at hn
  have h2 := h.below ((Below.refl _ w).alloc (Nat.le_refl _) (.cells #[.int .i64 0, .int .i64 0, .int .i64 0, .int .i64 0, .int .i64 0, .int .i64 0, .int .u32 0, .int .i64 0] 45))
  have q0 := Ib.made w 0 0 0 0 0 0 0 0
  have b0 : Below w.heap.size w (w.alloc (.cells #[.int .i64 0, .int .i64 0, .int .i64 0, .int .i64 0, .int .i64 0, .int .i64 0, .int .u32 0, .int .i64 0] 45)) := (Below.refl _ _).alloc (Nat.le_refl _) _
  unfold NoInst iv Ins.zero
  go_enter Tryz.func29, Tryz.ntmps29
  go_upto_region 1 with fail
  generalize w.alloc (.cells #[.int .i64 0, .int .i64 0, .int .i64 0, .int .i64 0, .int .i64 0, .int .i64 0, .int .u32 0, .int .i64 0] 45) = x at *
  go_wp2_with fail
  refine (xThread h2 t ht).mono ?_
  rintro e w' ⟨rfl, rfl⟩
  have c5 := h2.c5
  obtain ⟨c0, c1, c2, c3, c4, c5', c6, c7, c8⟩ := h2.core ht ec
  have k0 := h2.c0
  obtain ⟨hpv, a, cap, ecv⟩ := h2.pv
  rw [ecv] at k0
  have zf := Bk.free q0
  obtain ⟨z0, z1, z2, z3, z4, z5, z6, z7⟩ := q0.cells
  simp only at z0 z1 z2 z3 z4 z5 z6 z7
  have hg : ∀ y : World, Ib y w.heap.size Ins.zero → Below w.heap.size w y → Ib (put8 y w.heap.size Ins.zero) w.heap.size Ins.zero ∧ Below w.heap.size w (put8 y w.heap.size Ins.zero) := fun y hy hb => ⟨put8_ib hy, put8_below hb (Nat.le_refl _)⟩
  have HG := Lib.hid hg
  clear hg
  rcases memI_none hn with hp | hp | ⟨j, hp0, hp1, hj, hmj⟩
  · clear hn hl
    have hp' : decide (pc < 0) = true := by simpa using hp
    obtain ⟨g1, g2⟩ := HG.out x q0 b0
    clear q0 b0 HG h h2 hpv
    go_upto_region 5 with fail
    go_wp
    generalize hv9 : (((((((x.setCell ⟨w.heap.size, 0, none⟩ (.int .i64 0)).setCell ⟨w.heap.size, 1, none⟩ (.int .i64 0)).setCell ⟨w.heap.size, 2, none⟩ (.int .i64 0)).setCell ⟨w.heap.size, 3, none⟩ (.int .i64 0)).setCell ⟨w.heap.size, 4, none⟩ (.int .i64 0)).setCell ⟨w.heap.size, 5, none⟩ (.int .i64 0)).setCell ⟨w.heap.size, 6, none⟩ (.int .u32 0)).setCell ⟨w.heap.size, 7, none⟩ (.int .i64 0) = v9
    replace hv9 : put8 x w.heap.size Ins.zero = v9 := hv9
    rw [hv9] at g1 g2
    obtain ⟨y0, y1, y2, y3, y4, y5, y6, y7⟩ := g1.cells
    simp only [Ins.zero] at y0 y1 y2 y3 y4 y5 y6 y7
    exact bodyPost_ret (v := .tuple #[.agg #[.int .i64 0, .int .i64 0, .int .i64 0, .int .i64 0, .int .i64 0, .int .i64 0, .int .u32 0, .int .i64 0], .bool false]) (by simp [results, Tryz.results29, go_sem, y0, y1, y2, y3, y4, y5, y6, y7]) rfl ⟨rfl, g2⟩
  · have hp' : decide (pc < 0) = false := by simp; omega
    have hp2 : decide (pc ≥ (k.l.length : Int)) = true := by simp; omega
    have hp3 : (k.l.length : Int) ≤ pc := hp
    have hl2 := hl.2.1
    clear hn hl
    obtain ⟨g1, g2⟩ := HG.out x q0 b0
    clear q0 b0 HG h h2 hpv
    go_upto_region 5 with fail
    go_wp
    generalize hv9 : (((((((x.setCell ⟨w.heap.size, 0, none⟩ (.int .i64 0)).setCell ⟨w.heap.size, 1, none⟩ (.int .i64 0)).setCell ⟨w.heap.size, 2, none⟩ (.int .i64 0)).setCell ⟨w.heap.size, 3, none⟩ (.int .i64 0)).setCell ⟨w.heap.size, 4, none⟩ (.int .i64 0)).setCell ⟨w.heap.size, 5, none⟩ (.int .i64 0)).setCell ⟨w.heap.size, 6, none⟩ (.int .u32 0)).setCell ⟨w.heap.size, 7, none⟩ (.int .i64 0) = v9
    replace hv9 : put8 x w.heap.size Ins.zero = v9 := hv9
    rw [hv9] at g1 g2
    obtain ⟨y0, y1, y2, y3, y4, y5, y6, y7⟩ := g1.cells
    simp only [Ins.zero] at y0 y1 y2 y3 y4 y5 y6 y7
    exact bodyPost_ret (v := .tuple #[.agg #[.int .i64 0, .int .i64 0, .int .i64 0, .int .i64 0, .int .i64 0, .int .i64 0, .int .u32 0, .int .i64 0], .bool false]) (by simp [results, Tryz.results29, go_sem, y0, y1, y2, y3, y4, y5, y6, y7]) rfl ⟨rfl, g2⟩
  · obtain ⟨a2, ca2, e2, _, _, _, hsl⟩ := hpv
    simp only [Value.agg.injEq, Array.mk.injEq, List.cons.injEq, ecv, Value.slice.injEq, and_true, true_and] at e2
    obtain ⟨rfl, rfl⟩ := e2
    obtain ⟨n, rfl⟩ := Int.eq_ofNat_of_zero_le hp0
    rw [Int.toNat_natCast] at hj
    obtain ⟨g, off, rfl, hgl, e0, e1, e2, e3, e4, e5, e6, e7⟩ := hsl.at_ hj
    have hp' : decide ((n : Int) < 0) = false := by simp
    have hp2 : decide ((n : Int) ≥ (k.l.length : Int)) = false := by simp; omega
    have hp3 : (n : Int) < k.l.length := hp1
    have hl2 := hl.2.1
    have HM := Lib.hid (fun W => cMemory j W)
    rw [hmj] at HM
    have HQ := Lib.hid q0
    have HB := Lib.hid b0
    clear hn hl q0 b0 zf z0 z1 z2 z3 z4 z5 z6 z7 hmj
    obtain ⟨op, d, s, t', u, a', k', pl⟩ := j
    unfold iv at HM
    simp only at e0 e1 e2 e3 e4 e5 e6 e7 HM
    go_wp2_with fail
    refine (HM.out _).mono ?_
    rintro e y ⟨rfl, hy⟩
    have q0 := HQ.out.below hy
    obtain ⟨g1, g2⟩ := HG.out y q0 (HB.out.trans (hy.mono HB.out.size))
    have zf := Bk.free q0
    obtain ⟨z0, z1, z2, z3, z4, z5, z6, z7⟩ := q0.cells
    simp only at z0 z1 z2 z3 z4 z5 z6 z7
    clear q0 HQ HB HG h h2 hsl HM e0 e1 e2 e3 e4 e5 e6 e7 c0 c1 c2 c3 c4 c5 c5' c6 c7 c8 k0
    go_upto_region 5 with fail
    go_wp
    generalize hv9 : (((((((y.setCell ⟨w.heap.size, 0, none⟩ (.int .i64 0)).setCell ⟨w.heap.size, 1, none⟩ (.int .i64 0)).setCell ⟨w.heap.size, 2, none⟩ (.int .i64 0)).setCell ⟨w.heap.size, 3, none⟩ (.int .i64 0)).setCell ⟨w.heap.size, 4, none⟩ (.int .i64 0)).setCell ⟨w.heap.size, 5, none⟩ (.int .i64 0)).setCell ⟨w.heap.size, 6, none⟩ (.int .u32 0)).setCell ⟨w.heap.size, 7, none⟩ (.int .i64 0) = v9
    replace hv9 : put8 y w.heap.size Ins.zero = v9 := hv9
    rw [hv9] at g1 g2
    obtain ⟨y0, y1, y2, y3, y4, y5, y6, y7⟩ := g1.cells
    simp only [Ins.zero] at y0 y1 y2 y3 y4 y5 y6 y7
    exact bodyPost_ret (v := .tuple #[.agg #[.int .i64 0, .int .i64 0, .int .i64 0, .int .i64 0, .int .i64 0, .int .i64 0, .int .u32 0, .int .i64 0], .bool false]) (by simp [results, Tryz.results29, go_sem, y0, y1, y2, y3, y4, y5, y6, y7]) rfl ⟨rfl, g2⟩

end
end Go.Proofs.YtpinpipjlongaaaGreat

/- The document's lock at work in memory, and what keeps it. -/
namespace Go.Proofs.YtpinpipjlongaaaGreat
set_option maxRecDepth 100000
open Go.ChangeShapes Go.WideShapes Go.ChangeAt Go.RowKit
set_option linter.unusedVariables false

/-- The document's cores, one behind the other. -/
def coresR (cs : Nat → Cor) (n : Nat) : List Value := (List.range n).flatMap fun t => rorC (cs t).xs (cs t).pc
theorem rorC_len {xs : List Int} {pc : Int} (h : xs.length = 8) : (rorC xs pc).length = 9 := by simp [rorC, h]
section
variable {cs : Nat → Cor} {n : Nat}
theorem coresR_len (h : ∀ t, t < n → Eight (cs t).xs) : (coresR cs n).length = n * 9 := by
  unfold coresR
  rw [flat_len _ 9 _ (fun t ht => rorC_len (h t (List.mem_range.1 ht)).1), List.length_range]
theorem coresR_at (h : ∀ t, t < n → Eight (cs t).xs) {t j : Nat} (ht : t < n) (hj : j < 9) : (coresR cs n)[t * 9 + j]? = (rorC (cs t).xs (cs t).pc)[j]? :=
  flat_at' _ 9 _ (fun t ht => rorC_len (h t (List.mem_range.1 ht)).1) t j t (by simp [ht]) hj
theorem coresR_put (h : ∀ t, t < n → Eight (cs t).xs) {t : Nat} (ht : t < n) {c : Cor} (hc : Eight c.xs) : putL (coresR cs n) (t * 9) (rorC c.xs c.pc) = coresR (updN cs t c) n := by
  have h2 := updN_eight (n := n) h hc t
  apply List.ext_getElem?
  intro i
  have hl := coresR_len h
  have hl2 := coresR_len h2
  have hcl := rorC_len (pc := c.pc) hc.1
  have hle : t * 9 + 9 ≤ n * 9 := by omega
  rw [putL_at _ _ _ _ (by rw [hcl, hl]; exact hle), hcl]
  by_cases hi : i < n * 9
  · obtain ⟨s, j, hs, hj, rfl⟩ : ∃ s j, s < n ∧ j < 9 ∧ i = s * 9 + j := ⟨i / 9, i % 9, by omega, by omega, by omega⟩
    rw [coresR_at h2 hs hj, coresR_at h hs hj]
    by_cases e : s = t
    · subst e
      rw [if_pos (by omega), updN_same, show s * 9 + j - s * 9 = j by omega]
    · rw [if_neg (by omega), updN_other e]
  · rw [if_neg (by omega), List.getElem?_eq_none (by omega), List.getElem?_eq_none (by omega)]
theorem coresR_snoc (cs : Nat → Cor) (n : Nat) : coresR cs n ++ rorC (cs n).xs (cs n).pc = coresR cs (n + 1) := by
  unfold coresR
  rw [List.range_succ, List.flatMap_append]
  simp
end
theorem own_putW {base n cap sz g : Nat} {t : TypeId} : ∀ (vs xs : List Value) (o : Nat) (w : World), w.ownsRow base t sz (.slice (some ⟨g, 0, none⟩) n cap) n xs → (putW w g o vs).ownsRow base t sz (.slice (some ⟨g, 0, none⟩) n cap) n (putL xs o vs)
  | [], xs, o, w, h => h
  | v :: vs, xs, o, w, h => own_putW vs _ (o + 1) _ (World.ownsRow.stored h o v).1
theorem own_zero {w : World} {base n sz : Nat} {t : TypeId} {v : Value} {xs : List Value} (h : w.ownsRow base t sz v n xs) : w.ownsRow 0 t sz v n xs := World.ownsRow.mono (base' := 0) h (Nat.zero_le _)

/-- Where the document's lock lies. -/
structure YP where
  y : Nat
  cv : Value
  cl : Value
  wl : Value
  x : Nat
  kl : Value
  ac : Int
  R : RM
def YP.Own (Y : YP) (n i : Nat) : Prop := i = Y.y ∨ Y.cv.ownBlock = some i ∨ Y.cl.ownBlock = some i ∨ Y.wl.ownBlock = some i ∨ i = Y.x ∨ Y.kl.ownBlock = some i ∨ Y.R.Has n i
/-- The document's lock at work. -/
structure Ey (w : World) (Y : YP) (k : Lk) (m : Mc) : Prop where
  ptr : Bk w Y.y 83 #[Y.cv, .int .i64 k.lo, .int .i64 k.un, Y.cl, Y.wl, .pointer (some ⟨Y.x, 0, none⟩), Y.kl, .int .i64 Y.ac]
  code : w.ownsRow 0 97 8 Y.cv k.l.length (progC k.l)
  cells : Cs 0 w Y.cl (cels k.zs)
  words : Lst .u32 43 w Y.wl m.ws
  pool : Rf w Y.x k.n k.each Y.R m.pn.free m.pn.gen m.pn.out
  same : ∃ fr os c, Same k.n k.each m.pn.free m.pn.gen m.pn.out fr os c
  cores : w.ownsRow 0 86 9 Y.kl k.n (coresR m.cs k.n)
  lk : OkLk k
  mc : OkMc k m

/-- Behind a call of the document's: only its own has changed; what is its own now was so, or is new. -/
def YStays (w : World) (n : Nat) (Y : YP) (w' : World) (Y' : YP) : Prop := Within w w' (Y.Own n) ∧ (∀ i, Y'.Own n i → Y.Own n i ∨ w.heap.size ≤ i) ∧ Y'.y = Y.y
section
variable {w w' : World} {Y : YP} {k : Lk} {m : Mc}
theorem YStays.refl (w : World) (n : Nat) (Y : YP) : YStays w n Y w Y := ⟨Within.refl _ _, fun _ h => .inl h, rfl⟩
theorem YStays.then_ {n : Nat} {w'' : World} {Y' Y'' : YP} (h : YStays w n Y w' Y') (k : YStays w' n Y' w'' Y'') : YStays w n Y w'' Y'' :=
  ⟨h.1.then_ k.1 h.2.1, fun i hi => by
    rcases k.2.1 i hi with e | e
    · exact h.2.1 i e
    · exact .inr (Nat.le_trans h.1.size e), k.2.2.trans h.2.2⟩
theorem YStays.grown {n : Nat} {Y' : YP} {w'' : World} (h : YStays w n Y w' Y') (k : Below w'.heap.size w' w'') : YStays w n Y w'' Y' :=
  h.then_ ⟨(within_of_below k).wide (by simp), fun _ h => .inl h, rfl⟩
theorem YStays.of_grown {n : Nat} (k : Below w.heap.size w w') : YStays w n Y w' Y := (YStays.refl w n Y).grown k
theorem YStays.far' {v : World} {N : Nat} {Y' : YP} {S : Nat → Prop} (h : YStays v N Y w Y') (hw : Within w w' S) (hs : ∀ i, S i → v.heap.size ≤ i) : YStays v N Y w' Y' :=
  ⟨h.1.then_ hw (fun i e => .inr (hs i e)), h.2⟩

theorem Ey.kept {S : Nat → Prop} (h : Ey w Y k m) (hw : Within w w' S) (hn : ∀ i, Y.Own k.n i → ¬ S i) : Ey w' Y k m := by
  unfold YP.Own at hn
  exact ⟨h.ptr.within hw (hn _ (.inl rfl)), own_within h.code hw (fun g e => hn g (.inr (.inl e))), h.cells.within hw (fun g e => hn g (.inr (.inr (.inl e)))), h.words.within hw (fun g e => hn g (.inr (.inr (.inr (.inl e))))),
    h.pool.kept hw (hn _ (.inr (.inr (.inr (.inr (.inl rfl)))))) (fun i hi => hn i (.inr (.inr (.inr (.inr (.inr (.inr hi))))))), h.same, own_within h.cores hw (fun g e => hn g (.inr (.inr (.inr (.inr (.inr (.inl e))))))), h.lk, h.mc⟩
theorem Ey.below (h : Ey w Y k m) (hb : Below w.heap.size w w') : Ey w' Y k m := h.kept (within_of_below hb) (by simp)
theorem Ey.lt (h : Ey w Y k m) {i : Nat} (hi : Y.Own k.n i) : i < w.heap.size := by
  rcases hi with rfl | e | e | e | rfl | e | e
  · exact h.ptr.lt
  · exact (World.ownsRow.lt h.code i e).2
  · exact (h.cells.lt e).2
  · exact h.words.lt e
  · exact h.pool.ptr.lt
  · exact (World.ownsRow.lt h.cores i e).2
  · exact h.pool.lt e
theorem Ey.c0 (h : Ey w Y k m) : w.cell? ⟨Y.y, 0, none⟩ = some Y.cv := by rw [h.ptr.cell]; rfl
theorem Ey.c1 (h : Ey w Y k m) : w.cell? ⟨Y.y, 1, none⟩ = some (.int .i64 k.lo) := by rw [h.ptr.cell]; rfl
theorem Ey.c2 (h : Ey w Y k m) : w.cell? ⟨Y.y, 2, none⟩ = some (.int .i64 k.un) := by rw [h.ptr.cell]; rfl
theorem Ey.c3 (h : Ey w Y k m) : w.cell? ⟨Y.y, 3, none⟩ = some Y.cl := by rw [h.ptr.cell]; rfl
theorem Ey.c4 (h : Ey w Y k m) : w.cell? ⟨Y.y, 4, none⟩ = some Y.wl := by rw [h.ptr.cell]; rfl
theorem Ey.c5 (h : Ey w Y k m) : w.cell? ⟨Y.y, 5, none⟩ = some (.pointer (some ⟨Y.x, 0, none⟩)) := by rw [h.ptr.cell]; rfl
theorem Ey.c6 (h : Ey w Y k m) : w.cell? ⟨Y.y, 6, none⟩ = some Y.kl := by rw [h.ptr.cell]; rfl
theorem Ey.c7 (h : Ey w Y k m) : w.cell? ⟨Y.y, 7, none⟩ = some (.int .i64 Y.ac) := by rw [h.ptr.cell]; rfl
theorem Ey.pv (h : Ey w Y k m) : Pv w (.agg #[Y.cv, .int .i64 k.lo, .int .i64 k.un]) ⟨k.l, k.lo, k.un⟩ ∧ ∃ a cap, Y.cv = .slice a k.l.length cap := by
  obtain ⟨a, cap, e, h1, h2, _⟩ := own_is h.code
  exact ⟨own_pv (c := ⟨k.l, k.lo, k.un⟩) h.code, a, cap, e⟩
/-- Its cores' row. -/
theorem Ey.klIs (h : Ey w Y k m) : ∃ g cap, Y.kl = .slice (some ⟨g, 0, none⟩) k.n cap ∧ k.n ≤ cap ∧ cap ≤ maxLen ∧ Y.kl.ownBlock = some g ∧ (∀ i, w.frozen? ⟨g, i, none⟩ = false) ∧ ∀ t, t < k.n → ∀ j, j < 9 → w.cell? ⟨g, t * 9 + j, none⟩ = (rorC (m.cs t).xs (m.cs t).pc)[j]? := by
  obtain ⟨a, cap, e, h1, h2, h3⟩ := own_is h.cores
  obtain ⟨g, rfl, e2, _, _, hf, hc⟩ := h3 h.lk.n1
  refine ⟨g, cap, e, h1, h2, e2, hf, fun t ht j hj => ?_⟩
  rw [hc _ (by omega), coresR_at h.mc.cs ht hj]
theorem Ey.core_cons (h : Ey w Y k m) {t : Nat} (ht : t < k.n) : ∃ r0 r1 r2 r3 r4 r5 r6 r7 pc, m.cs t = ⟨[r0, r1, r2, r3, r4, r5, r6, r7], pc⟩ := by
  obtain ⟨r0, r1, r2, r3, r4, r5, r6, r7, e⟩ := eight_cons (h.mc.cs t ht).1
  exact ⟨r0, r1, r2, r3, r4, r5, r6, r7, (m.cs t).pc, by rw [← e]⟩
theorem Ey.core (h : Ey w Y k m) {t : Nat} (ht : t < k.n) {r0 r1 r2 r3 r4 r5 r6 r7 pc : Int} (e : m.cs t = ⟨[r0, r1, r2, r3, r4, r5, r6, r7], pc⟩) {g cap : Nat} (ek : Y.kl = .slice (some ⟨g, 0, none⟩) k.n cap) :
    w.cell? ⟨g, t * 9, none⟩ = some (.int .i64 r0) ∧ w.cell? ⟨g, t * 9 + 1, none⟩ = some (.int .i64 r1) ∧ w.cell? ⟨g, t * 9 + 2, none⟩ = some (.int .i64 r2) ∧ w.cell? ⟨g, t * 9 + 3, none⟩ = some (.int .i64 r3) ∧ w.cell? ⟨g, t * 9 + 4, none⟩ = some (.int .i64 r4) ∧ w.cell? ⟨g, t * 9 + 5, none⟩ = some (.int .i64 r5) ∧ w.cell? ⟨g, t * 9 + 6, none⟩ = some (.int .i64 r6) ∧ w.cell? ⟨g, t * 9 + 7, none⟩ = some (.int .i64 r7) ∧ w.cell? ⟨g, t * 9 + 8, none⟩ = some (.int .i64 pc) := by
  obtain ⟨g', cap', ek', _, _, _, _, hc⟩ := h.klIs
  rw [ek] at ek'
  simp only [Value.slice.injEq, Option.some.injEq, Addr.mk.injEq, and_true, true_and] at ek'
  obtain ⟨rfl, -⟩ := ek'
  have H := fun j (hj : j < 9) => hc t ht j hj
  rw [e] at H
  exact ⟨H 0 (by omega), H 1 (by omega), H 2 (by omega), H 3 (by omega), H 4 (by omega), H 5 (by omega), H 6 (by omega), H 7 (by omega), H 8 (by omega)⟩
/-- Its words' row. -/
theorem Ey.wlIs (h : Ey w Y k m) : ∃ a cap, Y.wl = .slice a m.ws.length cap ∧ m.ws.length ≤ cap ∧ cap ≤ maxLen ∧ (0 < m.ws.length → ∃ g, a = some ⟨g, 0, none⟩ ∧ Y.wl.ownBlock = some g ∧ (∀ i, w.frozen? ⟨g, i, none⟩ = false) ∧ ∀ i, i < m.ws.length → w.cell? ⟨g, i, none⟩ = some (.int .u32 (nth m.ws i))) := h.words.is

/-- What one changed block, of a type that something else doesn't have, leaves. -/
theorem Ey.others {g : Nat} {t : TypeId} {cs : Array Value} (h : Ey w Y k m) (hW : Within w w' (fun i => i = g)) (hb : Bk w g t cs) :
    (t ≠ 83 → Bk w' Y.y 83 #[Y.cv, .int .i64 k.lo, .int .i64 k.un, Y.cl, Y.wl, .pointer (some ⟨Y.x, 0, none⟩), Y.kl, .int .i64 Y.ac]) ∧
    (t ≠ 97 → w'.ownsRow 0 97 8 Y.cv k.l.length (progC k.l)) ∧
    (t ≠ 107 → Cs 0 w' Y.cl (cels k.zs)) ∧
    (t ≠ 43 → Lst .u32 43 w' Y.wl m.ws) ∧
    (t ≠ 129 → t ≠ 25 → t ≠ 3 → Rf w' Y.x k.n k.each Y.R m.pn.free m.pn.gen m.pn.out) ∧
    (t ≠ 86 → w'.ownsRow 0 86 9 Y.kl k.n (coresR m.cs k.n)) := by
  refine ⟨fun ht => h.ptr.within hW (Bk.unlike h.ptr hb (fun e => ht e.symm)), fun ht => own_within h.code hW (fun g' e e2 => ?_), fun ht => h.cells.within hW (fun g' e e2 => ?_), fun ht => h.words.within hW (fun g' e e2 => ?_),
    fun t1 t2 t3 => h.pool.kept hW (Bk.unlike h.pool.ptr hb (fun e => t1 e.symm)) (fun i hi e2 => Rf.not_has h.pool hb t2 t3 (e2 ▸ hi)), fun ht => own_within h.cores hW (fun g' e e2 => ?_)⟩
  · obtain ⟨cs', hcs⟩ := own_bk h.code e
    exact Bk.unlike hcs hb (fun e => ht e.symm) e2
  · obtain ⟨cs', hcs⟩ := own_bk h.cells e
    exact Bk.unlike hcs hb (fun e => ht e.symm) e2
  · obtain ⟨cs', hcs⟩ := h.words.bk e
    exact Bk.unlike hcs hb (fun e => ht e.symm) e2
  · obtain ⟨cs', hcs⟩ := own_bk h.cores e
    exact Bk.unlike hcs hb (fun e => ht e.symm) e2
/-- Thread t's core is another. -/
theorem Ey.put (h : Ey w Y k m) {t : Nat} (ht : t < k.n) {c : Cor} (hc : Eight c.xs) {g cap : Nat} (e : Y.kl = .slice (some ⟨g, 0, none⟩) k.n cap) : Ey (putW w g (t * 9) (rorC c.xs c.pc)) Y k { m with cs := updN m.cs t c } ∧ YStays w k.n Y (putW w g (t * 9) (rorC c.xs c.pc)) Y := by
  have hW : Within w (putW w g (t * 9) (rorC c.xs c.pc)) (fun i => i = g) := .of_grown (putW_only _ _ _) (by rintro i e; injection e with e; exact .inl e.symm)
  have hg : Y.kl.ownBlock = some g := by rw [e]; rfl
  have hk := h.cores
  obtain ⟨cs0, hb⟩ := own_bk hk hg
  rw [e] at hk
  have hp := own_putW (rorC c.xs c.pc) _ (t * 9) w hk
  rw [coresR_put h.mc.cs ht hc, ← e] at hp
  obtain ⟨o1, o2, o3, o4, o5, o6⟩ := h.others hW hb
  exact ⟨⟨o1 (by decide), o2 (by decide), o3 (by decide), o4 (by decide), o5 (by decide) (by decide) (by decide), h.same, hp, h.lk, ⟨h.mc.ws, h.mc.len, updN_eight h.mc.cs hc t⟩⟩, hW.wide (fun i e _ => by subst e; exact .inr (.inr (.inr (.inr (.inr (.inl hg)))))), fun _ h => .inl h, rfl⟩
/-- One of its words is another. -/
theorem Ey.word (h : Ey w Y k m) {g cap : Nat} (e : Y.wl = .slice (some ⟨g, 0, none⟩) m.ws.length cap) (a : Nat) {v : Int} (hv : 0 ≤ v ∧ v < 4294967296) : Ey (w.setCell ⟨g, a, none⟩ (.int .u32 v)) Y k { m with ws := m.ws.set a v } ∧ YStays w k.n Y (w.setCell ⟨g, a, none⟩ (.int .u32 v)) Y := by
  have hW : Within w (w.setCell ⟨g, a, none⟩ (.int .u32 v)) (fun i => i = g) := (Within.refl _ _).put _ _ _ (.inl rfl)
  have hg : Y.wl.ownBlock = some g := by rw [e]; rfl
  have hk := h.words
  obtain ⟨cs0, hb⟩ := hk.bk hg
  rw [e] at hk
  have hp := hk.put a v
  rw [← e] at hp
  obtain ⟨o1, o2, o3, o4, o5, o6⟩ := h.others hW hb
  exact ⟨⟨o1 (by decide), o2 (by decide), o3 (by decide), hp, o5 (by decide) (by decide) (by decide), h.same, o6 (by decide), h.lk, ⟨h.mc.ws.set _ _ hv, by rw [List.length_set]; exact h.mc.len, h.mc.cs⟩⟩, hW.wide (fun i e _ => by subst e; exact .inr (.inr (.inr (.inl hg)))), fun _ h => .inl h, rfl⟩
/-- One access more. -/
theorem Ey.more (h : Ey w Y k m) (v : Int) : Ey (w.setCell ⟨Y.y, 7, none⟩ (.int .i64 v)) { Y with ac := v } k m ∧ YStays w k.n Y (w.setCell ⟨Y.y, 7, none⟩ (.int .i64 v)) { Y with ac := v } := by
  have hW : Within w (w.setCell ⟨Y.y, 7, none⟩ (.int .i64 v)) (fun i => i = Y.y) := (Within.refl _ _).put _ _ _ (.inl rfl)
  obtain ⟨o1, o2, o3, o4, o5, o6⟩ := h.others hW h.ptr
  exact ⟨⟨h.ptr.put 7 (.int .i64 v), o2 (by decide), o3 (by decide), o4 (by decide), o5 (by decide) (by decide) (by decide), h.same, o6 (by decide), h.lk, h.mc⟩, hW.wide (fun i e _ => by subst e; exact .inl rfl), fun _ h => .inl h, rfl⟩
/-- Its nodes are others. -/
theorem Ey.nodes (h : Ey w Y k m) {R' : RM} {pn' : Pn} (hp : Rf w' Y.x k.n k.each R' pn'.free pn'.gen pn'.out) (hs : ∃ fr os c, Same k.n k.each pn'.free pn'.gen pn'.out fr os c) (hst : RStays w k.n Y.R w' R') : Ey w' { Y with R := R' } k { m with pn := pn' } ∧ YStays w k.n Y w' { Y with R := R' } := by
  have hW := hst.1
  have nh : ∀ {q : Nat} {t : TypeId} {cs : Array Value}, Bk w q t cs → t ≠ 25 → t ≠ 3 → ¬ Y.R.Has k.n q := fun hb h1 h2 => h.pool.not_has hb h1 h2
  refine ⟨⟨h.ptr.within hW (nh h.ptr (by decide) (by decide)), own_within h.code hW (fun g' e => ?_), h.cells.within hW (fun g' e => ?_), h.words.within hW (fun g' e => ?_), hp, hs, own_within h.cores hW (fun g' e => ?_), h.lk, ⟨h.mc.ws, h.mc.len, h.mc.cs⟩⟩, hW.wide (fun i e _ => .inr (.inr (.inr (.inr (.inr (.inr e)))))), fun i hi => ?_, rfl⟩
  · obtain ⟨cs', hcs⟩ := own_bk h.code e
    exact nh hcs (by decide) (by decide)
  · obtain ⟨cs', hcs⟩ := own_bk h.cells e
    exact nh hcs (by decide) (by decide)
  · obtain ⟨cs', hcs⟩ := h.words.bk e
    exact nh hcs (by decide) (by decide)
  · obtain ⟨cs', hcs⟩ := own_bk h.cores e
    exact nh hcs (by decide) (by decide)
  · rcases hi with e | e | e | e | e | e | e
    · exact .inl (.inl e)
    · exact .inl (.inr (.inl e))
    · exact .inl (.inr (.inr (.inl e)))
    · exact .inl (.inr (.inr (.inr (.inl e))))
    · exact .inl (.inr (.inr (.inr (.inr (.inl e)))))
    · exact .inl (.inr (.inr (.inr (.inr (.inr (.inl e))))))
    · rcases hst.2 i e with e | e
      · exact .inl (.inr (.inr (.inr (.inr (.inr (.inr e))))))
      · exact .inr e

/-- Where a word's cell stands, or that there is none. -/
theorem yFind (h : Ey w Y k m) (area x : Int) (h0 : 0 ≤ x) (h1 : x < 4294967296) :
    Calls Tryz.prog 34 #[Y.cl, .int .i64 area, .int .u32 x] w fun e w' => (match findM k.zs area x with
      | none => e = .returned (.int .i64 (-1))
      | some a => e = .returned (.int .i64 a)) ∧ w.grownBy w' none := by
  unfold findM
  by_cases hc : 0 ≤ area ∧ area < k.zs.length ∧ x % 4096 < sz k.zs area.toNat
  · rw [if_pos hc]
    obtain ⟨A, rfl⟩ := Int.eq_ofNat_of_zero_le hc.1
    have h2 := hc.2.2
    rw [Int.toNat_natCast] at h2 ⊢
    obtain ⟨P, hP⟩ := Int.eq_ofNat_of_zero_le (show 0 ≤ x % 4096 by omega)
    have := rFind h.cells h.lk.zs A P x h0 h1 (by omega) (by omega) hP
    rw [hP, Int.toNat_natCast]
    exact this
  · rw [if_neg hc]
    exact rFindNo h.cells h.lk.zs area x h0 h1 (by omega)
end
/-- What the document's step comes to, as a value. -/
def one01 (b : Bool) : Int := if b then 1 else 0
def otR (v : Value) (o : Ot) : Value := .agg #[v, .int .i64 o.done, .int .i64 o.addr, .int .i64 (one01 o.wrote), .int .i64 (one01 o.stay), .int .i64 o.e]
/-- What the document's Begin or Step returns. -/
def CameY (w : World) (Y : YP) (k : Lk) (r : Mc × Ot) (e : Ending) (w' : World) : Prop :=
  ∃ v Y', e = .returned (otR v r.2) ∧ Lst .i64 3 w' v r.2.ms ∧ Ey w' Y' k r.1 ∧ YStays w k.n Y w' Y'
end Go.Proofs.YtpinpipjlongaaaGreat

/- The instruction of the memory at which a thread stands. -/
namespace Go.Proofs.YtpinpipjlongaaaGreat
set_option maxRecDepth 100000
open Go.ChangeShapes Go.WideShapes Go.ChangeAt Go.RowKit
set_option linter.unusedVariables false
section
variable {w w' : World} {X : XP} {k : Lk} {m : Mc}

set_option maxHeartbeats 2000000 in
theorem xStandOne (h : Ex w X k m) (t : Nat) (ht : t < k.n) {i : Ins} (hn : memI k (m.cs t).pc = some i) :
    Calls Tryz.prog 29 #[.pointer (some ⟨X.x, 0, none⟩), .int .i64 t] w (OneInst w i) := by
  have hf := h.lk.n64
  have hl := h.lk.parts
  obtain ⟨r0, r1, r2, r3, r4, r5, r6, r7, pc, ec⟩ := h.core_cons ht
  rw [ec] at hn
  simp only at hn
  have h2 := h.below ((Below.refl _ w).alloc (Nat.le_refl _) (.cells #[.int .i64 0, .int .i64 0, .int .i64 0, .int .i64 0, .int .i64 0, .int .i64 0, .int .u32 0, .int .i64 0] 45))
  have q0 := Ib.made w 0 0 0 0 0 0 0 0
  have b0 : Below w.heap.size w (w.alloc (.cells #[.int .i64 0, .int .i64 0, .int .i64 0, .int .i64 0, .int .i64 0, .int .i64 0, .int .u32 0, .int .i64 0] 45)) := (Below.refl _ _).alloc (Nat.le_refl _) _
  obtain ⟨hp0, hp1, hj, hmj⟩ := memI_is hn
  obtain ⟨n, rfl⟩ := Int.eq_ofNat_of_zero_le hp0
  rw [Int.toNat_natCast] at hj
  have HG : Hid (∀ y : World, Ib y w.heap.size Ins.zero → Below w.heap.size w y → Ib (put8 y w.heap.size i) w.heap.size i ∧ Below w.heap.size w (put8 y w.heap.size i)) := Lib.hid fun y hy hb => ⟨put8_ib hy, put8_below hb (Nat.le_refl _)⟩
  have HM := Lib.hid (fun W => cMemory i W)
  rw [hmj] at HM
  obtain ⟨op, d, s, t', u, a', k', pl⟩ := i
  unfold OneInst iv
  unfold iv at HM
  simp only at HM ⊢
  go_enter Tryz.func29, Tryz.ntmps29
  go_upto_region 1 with fail
  generalize w.alloc (.cells #[.int .i64 0, .int .i64 0, .int .i64 0, .int .i64 0, .int .i64 0, .int .i64 0, .int .u32 0, .int .i64 0] 45) = x at *
  go_wp2_with fail
  refine (xThread h2 t ht).mono ?_
  rintro e w' ⟨rfl, rfl⟩
  have c5 := h2.c5
  obtain ⟨c0, c1, c2, c3, c4, c5', c6, c7, c8⟩ := h2.core ht ec
  have k0 := h2.c0
  obtain ⟨hpv, a, cap, ecv⟩ := h2.pv
  rw [ecv] at k0
  obtain ⟨a2, ca2, e2, _, _, _, hsl⟩ := hpv
  simp only [Value.agg.injEq, Array.mk.injEq, List.cons.injEq, ecv, Value.slice.injEq, and_true, true_and] at e2
  obtain ⟨rfl, rfl⟩ := e2
  have HSL := Lib.hid hsl
  obtain ⟨g, off, rfl, hgl, e0, e1, e2, e3, e4, e5, e6, e7⟩ := hsl.at_ hj
  have hp' : decide ((n : Int) < 0) = false := by simp
  have hp2 : decide ((n : Int) ≥ (k.l.length : Int)) = false := by simp; omega
  have hp3 : (n : Int) < k.l.length := hp1
  have hl2 := hl.2.1
  have HQ := Lib.hid q0
  have HB := Lib.hid b0
  have HX := Lib.hid h2
  have HJ := Lib.hid hj
  clear hn hl q0 b0 hmj hsl h hj
  simp only at e0 e1 e2 e3 e4 e5 e6 e7
  go_wp2_with fail
  refine (HM.out _).mono ?_
  rintro e y ⟨rfl, hy⟩
  have q0 := HQ.out.below hy
  obtain ⟨g1, g2⟩ := HG.out y q0 (HB.out.trans (hy.mono HB.out.size))
  have zf := Bk.free q0
  obtain ⟨z0, z1, z2, z3, z4, z5, z6, z7⟩ := q0.cells
  simp only at z0 z1 z2 z3 z4 z5 z6 z7
  clear e0 e1 e2 e3 e4 e5 e6 e7 c0 c1 c2 c3 c4 c5 c5' c6 c7 c8 k0
  have h3 := HX.out.below hy
  have k0 := h3.c0
  rw [ecv] at k0
  obtain ⟨g', off', ee, hgl', e0, e1, e2, e3, e4, e5, e6, e7⟩ := (HSL.out.below hy).at_ HJ.out
  simp only [Option.some.injEq, Addr.mk.injEq, and_true] at ee
  obtain ⟨rfl, rfl⟩ := ee
  simp only at e0 e1 e2 e3 e4 e5 e6 e7
  clear q0 HQ HB HG h2 h3 HM HX HSL HJ hgl'
  have hp4 : decide (k.l.length ≤ n) = false := by simp; omega
  rw [hp4]
  go_upto_region 6 with fail
  go_wp
  generalize hv9 : (((((((y.setCell ⟨w.heap.size, 0, none⟩ (.int .i64 op)).setCell ⟨w.heap.size, 1, none⟩ (.int .i64 d)).setCell ⟨w.heap.size, 2, none⟩ (.int .i64 s)).setCell ⟨w.heap.size, 3, none⟩ (.int .i64 t')).setCell ⟨w.heap.size, 4, none⟩ (.int .i64 u)).setCell ⟨w.heap.size, 5, none⟩ (.int .i64 a')).setCell ⟨w.heap.size, 6, none⟩ (.int .u32 k')).setCell ⟨w.heap.size, 7, none⟩ (.int .i64 pl) = v9
  replace hv9 : put8 y w.heap.size ⟨op, d, s, t', u, a', k', pl⟩ = v9 := hv9
  rw [hv9] at g1 g2
  obtain ⟨y0, y1, y2, y3, y4, y5, y6, y7⟩ := g1.cells
  simp only at y0 y1 y2 y3 y4 y5 y6 y7
  exact bodyPost_ret (v := .tuple #[.agg #[.int .i64 op, .int .i64 d, .int .i64 s, .int .i64 t', .int .i64 u, .int .i64 a', .int .u32 k', .int .i64 pl], .bool true]) (by simp [results, Tryz.results29, go_sem, y0, y1, y2, y3, y4, y5, y6, y7]) rfl ⟨rfl, g2⟩

end
end Go.Proofs.YtpinpipjlongaaaGreat
