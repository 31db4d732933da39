/- ExB2. -/
import Derived.Test.YtpinpipjlongaaaGreatKCoreV
/- Layer 10 (exec): await. -/
namespace Go.Proofs.YtpinpipjlongaaaGreat
set_option maxRecDepth 100000
open Go.ChangeShapes Go.WideShapes Go.ChangeAt Go.RowKit
set_option linter.unusedVariables false
section
variable {w w' : World} {X : XP} {k : Lk} {m : Mc}

/-- What await leaves. -/
def Awaited (w : World) (c : Cor) (s : Bool) (e : Ending) (w' : World) : Prop := e = .returned (.tuple #[cv c.xs c.pc, .bool s]) ∧ Below w.heap.size w w'

set_option maxHeartbeats 4000000 in
theorem xAwait (c : Cor) (i : Ins) (n : Nat) (v : Int) (late : Bool) (w : World) (hx : Eight c.xs) (hi : OkM i n) (h21 : i.op = 21) (hv : 0 ≤ v ∧ v < 4294967296) (hp0 : 0 ≤ c.pc) (hp1 : c.pc < 1000) :
    Calls Tryz.prog 87 #[cv c.xs c.pc, iv i, .int .u32 v, .bool late] w (Awaited w (awaitC c i v late).1 (awaitC c i v late).2) := by
  obtain ⟨hk, hpl⟩ := hi.aw h21
  have hd := hi.d
  have ht := hi.t
  obtain ⟨xs, pc⟩ := c
  obtain ⟨op, d, s, t, u, a', k', pl⟩ := i
  simp only at hk hpl hd ht hx hp0 hp1
  obtain ⟨dn, rfl⟩ : ∃ n : Nat, d = n := ⟨d.toNat, by omega⟩
  obtain ⟨tn, rfl⟩ : ∃ n : Nat, t = n := ⟨t.toNat, by omega⟩
  have hd8 : dn < 8 := by omega
  have ht8 : tn < 8 := by omega
  have hV := hx.2.at_ tn
  obtain ⟨r0, r1, r2, r3, r4, r5, r6, r7, rfl⟩ := eight_cons hx.1
  obtain ⟨s0, s1, s2, s3, s4, s5, s6, s7, hs⟩ := eight_cons (xs := [r0, r1, r2, r3, r4, r5, r6, r7].set dn v) (by simp)
  have HS := Lib.hid hs
  generalize hA : awaitC ⟨[r0, r1, r2, r3, r4, r5, r6, r7], pc⟩ ⟨op, dn, s, tn, u, a', k', pl⟩ v late = A
  have HA : Hid (A = if decide (v = nth [r0, r1, r2, r3, r4, r5, r6, r7] tn) == decide (k' = 0) then (⟨[s0, s1, s2, s3, s4, s5, s6, s7], pc + 1⟩, false) else if late = true ∧ pl ≠ -1 then (⟨[s0, s1, s2, s3, s4, s5, s6, s7], pl⟩, false) else (⟨[s0, s1, s2, s3, s4, s5, s6, s7], pc⟩, true)) := Lib.hid (by
    rw [← hA]; unfold awaitC; simp only [Int.toNat_natCast, hs])
  clear hA hs
  have q0 := ((Cb.made w [r0, r1, r2, r3, r4, r5, r6, r7] pc).below (Below.alloc (o := .cells #[.int .i64 op, .int .i64 dn, .int .i64 s, .int .i64 tn, .int .i64 u, .int .i64 a', .int .u32 k', .int .i64 pl] 45) (Below.refl _ _) (Nat.le_refl _)))
  have q1 := Ib.made (w.alloc (.cells (corC [r0, r1, r2, r3, r4, r5, r6, r7] pc).toArray 66)) op dn s tn u a' k' pl
  have b0 : Below w.heap.size w ((w.alloc (.cells (corC [r0, r1, r2, r3, r4, r5, r6, r7] pc).toArray 66)).alloc (.cells #[.int .i64 op, .int .i64 dn, .int .i64 s, .int .i64 tn, .int .i64 u, .int .i64 a', .int .u32 k', .int .i64 pl] 45)) := ((Below.refl _ _).alloc (Nat.le_refl _) _).alloc (by simp) _
  rw [World.size_alloc] at q1
  have q2 := Cb.made ((w.alloc (.cells (corC [r0, r1, r2, r3, r4, r5, r6, r7] pc).toArray 66)).alloc (.cells #[.int .i64 op, .int .i64 dn, .int .i64 s, .int .i64 tn, .int .i64 u, .int .i64 a', .int .u32 k', .int .i64 pl] 45)) [0, 0, 0, 0, 0, 0, 0, 0] 0
  rw [World.size_alloc, World.size_alloc] at q2
  have q0' := q0.below (Below.alloc (o := .cells (corC [0, 0, 0, 0, 0, 0, 0, 0] 0).toArray 66) (Below.refl _ _) (Nat.le_refl _))
  have q1' := q1.below (Below.alloc (o := .cells (corC [0, 0, 0, 0, 0, 0, 0, 0] 0).toArray 66) (Below.refl _ _) (by rw [World.size_alloc, World.size_alloc]; exact Nat.le_refl _))
  replace b0 := b0.alloc (o := .cells (corC [0, 0, 0, 0, 0, 0, 0, 0] 0).toArray 66) b0.size
  clear q0 q1
  unfold Awaited cv iv
  simp only [corC, List.map_cons, List.map_nil, List.cons_append, List.nil_append] at q0' q1' q2 b0 ⊢
  go_enter Tryz.func87, Tryz.ntmps87
  go_upto_region 1 with fail
  generalize ((w.alloc (.cells #[.int .u32 r0, .int .u32 r1, .int .u32 r2, .int .u32 r3, .int .u32 r4, .int .u32 r5, .int .u32 r6, .int .u32 r7, .int .i64 pc] 66)).alloc (.cells #[.int .i64 op, .int .i64 dn, .int .i64 s, .int .i64 tn, .int .i64 u, .int .i64 a', .int .u32 k', .int .i64 pl] 45)).alloc (.cells #[.int .u32 0, .int .u32 0, .int .u32 0, .int .u32 0, .int .u32 0, .int .u32 0, .int .u32 0, .int .u32 0, .int .i64 0] 66) = x at *
  have cT := q0'.at_ rfl ht8
  have cD := q0'.at_ rfl hd8
  obtain ⟨e0, e1, e2, e3, e4, e5, e6, e7⟩ := q1'.cells
  simp only at e0 e1 e2 e3 e4 e5 e6 e7
  have zf := Bk.free q0'
  have q := q0'.set rfl hd8 v
  rw [HS.out] at q
  have q1 := q1'.off (p := ⟨w.heap.size, dn, none⟩) (by show w.heap.size + 1 ≠ w.heap.size; omega) (.int .u32 v)
  have q2' : Cb (x.setCell ⟨w.heap.size, dn, none⟩ (.int .u32 v)) _ _ _ := Bk.off q2 (p := ⟨w.heap.size, dn, none⟩) (by show w.heap.size + 1 + 1 ≠ w.heap.size; omega) (.int .u32 v)
  have b := b0.setCell (p := ⟨w.heap.size, dn, none⟩) (Nat.le_refl _) (.int .u32 v)
  have hw1 : wrap64 (pc + 1) = pc + 1 := IntWalk.wrap64_in _ (by omega)
  clear q0' q1' q2 b0 hx hi HS h21 hp0 hd ht
  have q2 := q2'
  clear q2'
  generalize nth [r0, r1, r2, r3, r4, r5, r6, r7] dn = V2 at *
  generalize nth [r0, r1, r2, r3, r4, r5, r6, r7] tn = V at *
  by_cases hV : v = V
  · subst hV
    rcases hk with rfl | rfl
    · replace HA : Hid (A = (⟨[s0, s1, s2, s3, s4, s5, s6, s7], pc + 1⟩, false)) := Lib.hid (by rw [HA.out]; simp)
      clear hpl
      go_upto_region 5 with fail
      clear cT cD e0 e1 e2 e3 e4 e5 e6 e7 zf
      generalize x.setCell ⟨w.heap.size, dn, none⟩ (.int .u32 v) = y at *
      obtain ⟨c0, c1, c2, c3, c4, c5, c6, c7, c8⟩ := q.cells
      obtain ⟨e0, e1, e2, e3, e4, e5, e6, e7⟩ := Ib.cells (i := ⟨op, dn, s, tn, u, a', 0, pl⟩) q1
      simp only at e0 e1 e2 e3 e4 e5 e6 e7
      have zf := Bk.free q
      go_upto_region 9 with fail
      have o0 : Cb (y.setCell ⟨w.heap.size, 8, none⟩ (.int .i64 (pc + 1))) w.heap.size [s0, s1, s2, s3, s4, s5, s6, s7] (pc + 1) := Bk.put q 8 (.int .i64 (pc + 1))
      have o2 : Cb (y.setCell ⟨w.heap.size, 8, none⟩ (.int .i64 (pc + 1))) _ _ _ := Bk.off q2 (p := ⟨w.heap.size, 8, none⟩) (by show w.heap.size + 1 + 1 ≠ w.heap.size; omega) (.int .i64 (pc + 1))
      have o3 := b.setCell (p := ⟨w.heap.size, 8, none⟩) (Nat.le_refl _) (.int .i64 (pc + 1))
      clear q q2 b c0 c1 c2 c3 c4 c5 c6 c7 c8 zf e0 e1 e2 e3 e4 e5 e6 e7
      generalize y.setCell ⟨w.heap.size, 8, none⟩ (.int .i64 (pc + 1)) = y at *
      have q := o0
      have q2 := o2
      have b := o3
      clear o0 o2 o3
      obtain ⟨c0, c1, c2, c3, c4, c5, c6, c7, c8⟩ := q.cells
      have zf := Bk.free q2
      obtain ⟨z0, z1, z2, z3, z4, z5, z6, z7, z8⟩ := q2.cells
      have h9 := put9_bk q2 (.int .u32 s0) (.int .u32 s1) (.int .u32 s2) (.int .u32 s3) (.int .u32 s4) (.int .u32 s5) (.int .u32 s6) (.int .u32 s7) (.int .i64 (pc + 1))
      have b9 := put9_below b (show w.heap.size ≤ w.heap.size + 1 + 1 by omega) (.int .u32 s0) (.int .u32 s1) (.int .u32 s2) (.int .u32 s3) (.int .u32 s4) (.int .u32 s5) (.int .u32 s6) (.int .u32 s7) (.int .i64 (pc + 1))
      clear q q2 b
      go_wp
      generalize hv9 : (((((((((y.setCell ⟨(w.heap.size + 1 + 1), 0, none⟩ (.int .u32 s0)).setCell ⟨(w.heap.size + 1 + 1), 1, none⟩ (.int .u32 s1)).setCell ⟨(w.heap.size + 1 + 1), 2, none⟩ (.int .u32 s2)).setCell ⟨(w.heap.size + 1 + 1), 3, none⟩ (.int .u32 s3)).setCell ⟨(w.heap.size + 1 + 1), 4, none⟩ (.int .u32 s4)).setCell ⟨(w.heap.size + 1 + 1), 5, none⟩ (.int .u32 s5)).setCell ⟨(w.heap.size + 1 + 1), 6, none⟩ (.int .u32 s6)).setCell ⟨(w.heap.size + 1 + 1), 7, none⟩ (.int .u32 s7)).setCell ⟨(w.heap.size + 1 + 1), 8, none⟩ (.int .i64 (pc + 1))) = v9
      replace hv9 : put9 y (w.heap.size + 1 + 1) (.int .u32 s0) (.int .u32 s1) (.int .u32 s2) (.int .u32 s3) (.int .u32 s4) (.int .u32 s5) (.int .u32 s6) (.int .u32 s7) (.int .i64 (pc + 1)) = v9 := hv9
      rw [hv9] at h9 b9
      obtain ⟨y0, y1, y2, y3, y4, y5, y6, y7, y8⟩ := Cb.cells (r0 := s0) (r1 := s1) (r2 := s2) (r3 := s3) (r4 := s4) (r5 := s5) (r6 := s6) (r7 := s7) (pc := (pc + 1)) h9
      exact bodyPost_ret (v := .tuple #[.agg #[.int .u32 s0, .int .u32 s1, .int .u32 s2, .int .u32 s3, .int .u32 s4, .int .u32 s5, .int .u32 s6, .int .u32 s7, .int .i64 (pc + 1)], .bool false]) (by simp [results, Tryz.results87, go_sem, y0, y1, y2, y3, y4, y5, y6, y7, y8]) rfl ⟨by rw [HA.out]; rfl, b9⟩
    · cases late with
      | false =>
        replace HA : Hid (A = (⟨[s0, s1, s2, s3, s4, s5, s6, s7], pc⟩, true)) := Lib.hid (by rw [HA.out]; simp)
        clear hpl
        go_upto_region 5 with fail
        clear cT cD e0 e1 e2 e3 e4 e5 e6 e7 zf
        generalize x.setCell ⟨w.heap.size, dn, none⟩ (.int .u32 v) = y at *
        obtain ⟨c0, c1, c2, c3, c4, c5, c6, c7, c8⟩ := q.cells
        obtain ⟨e0, e1, e2, e3, e4, e5, e6, e7⟩ := Ib.cells (i := ⟨op, dn, s, tn, u, a', 1, pl⟩) q1
        simp only at e0 e1 e2 e3 e4 e5 e6 e7
        have zf := Bk.free q
        go_upto_region 4 with fail
        clear c0 c1 c2 c3 c4 c5 c6 c7 c8 zf e0 e1 e2 e3 e4 e5 e6 e7
        obtain ⟨c0, c1, c2, c3, c4, c5, c6, c7, c8⟩ := q.cells
        have zf := Bk.free q2
        obtain ⟨z0, z1, z2, z3, z4, z5, z6, z7, z8⟩ := q2.cells
        have h9 := put9_bk q2 (.int .u32 s0) (.int .u32 s1) (.int .u32 s2) (.int .u32 s3) (.int .u32 s4) (.int .u32 s5) (.int .u32 s6) (.int .u32 s7) (.int .i64 pc)
        have b9 := put9_below b (show w.heap.size ≤ w.heap.size + 1 + 1 by omega) (.int .u32 s0) (.int .u32 s1) (.int .u32 s2) (.int .u32 s3) (.int .u32 s4) (.int .u32 s5) (.int .u32 s6) (.int .u32 s7) (.int .i64 pc)
        clear q q2 b
        go_wp
        generalize hv9 : (((((((((y.setCell ⟨(w.heap.size + 1 + 1), 0, none⟩ (.int .u32 s0)).setCell ⟨(w.heap.size + 1 + 1), 1, none⟩ (.int .u32 s1)).setCell ⟨(w.heap.size + 1 + 1), 2, none⟩ (.int .u32 s2)).setCell ⟨(w.heap.size + 1 + 1), 3, none⟩ (.int .u32 s3)).setCell ⟨(w.heap.size + 1 + 1), 4, none⟩ (.int .u32 s4)).setCell ⟨(w.heap.size + 1 + 1), 5, none⟩ (.int .u32 s5)).setCell ⟨(w.heap.size + 1 + 1), 6, none⟩ (.int .u32 s6)).setCell ⟨(w.heap.size + 1 + 1), 7, none⟩ (.int .u32 s7)).setCell ⟨(w.heap.size + 1 + 1), 8, none⟩ (.int .i64 pc)) = v9
        replace hv9 : put9 y (w.heap.size + 1 + 1) (.int .u32 s0) (.int .u32 s1) (.int .u32 s2) (.int .u32 s3) (.int .u32 s4) (.int .u32 s5) (.int .u32 s6) (.int .u32 s7) (.int .i64 pc) = v9 := hv9
        rw [hv9] at h9 b9
        obtain ⟨y0, y1, y2, y3, y4, y5, y6, y7, y8⟩ := Cb.cells (r0 := s0) (r1 := s1) (r2 := s2) (r3 := s3) (r4 := s4) (r5 := s5) (r6 := s6) (r7 := s7) (pc := pc) h9
        exact bodyPost_ret (v := .tuple #[.agg #[.int .u32 s0, .int .u32 s1, .int .u32 s2, .int .u32 s3, .int .u32 s4, .int .u32 s5, .int .u32 s6, .int .u32 s7, .int .i64 pc], .bool true]) (by simp [results, Tryz.results87, go_sem, y0, y1, y2, y3, y4, y5, y6, y7, y8]) rfl ⟨by rw [HA.out]; rfl, b9⟩
      | true =>
        rcases hpl with rfl | ⟨hpl, _⟩
        · replace HA : Hid (A = (⟨[s0, s1, s2, s3, s4, s5, s6, s7], pc⟩, true)) := Lib.hid (by rw [HA.out]; simp)
          go_upto_region 5 with fail
          clear cT cD e0 e1 e2 e3 e4 e5 e6 e7 zf
          generalize x.setCell ⟨w.heap.size, dn, none⟩ (.int .u32 v) = y at *
          obtain ⟨c0, c1, c2, c3, c4, c5, c6, c7, c8⟩ := q.cells
          obtain ⟨e0, e1, e2, e3, e4, e5, e6, e7⟩ := Ib.cells (i := ⟨op, dn, s, tn, u, a', 1, -1⟩) q1
          simp only at e0 e1 e2 e3 e4 e5 e6 e7
          have zf := Bk.free q
          go_upto_region 4 with fail
          clear c0 c1 c2 c3 c4 c5 c6 c7 c8 zf e0 e1 e2 e3 e4 e5 e6 e7
          obtain ⟨c0, c1, c2, c3, c4, c5, c6, c7, c8⟩ := q.cells
          have zf := Bk.free q2
          obtain ⟨z0, z1, z2, z3, z4, z5, z6, z7, z8⟩ := q2.cells
          have h9 := put9_bk q2 (.int .u32 s0) (.int .u32 s1) (.int .u32 s2) (.int .u32 s3) (.int .u32 s4) (.int .u32 s5) (.int .u32 s6) (.int .u32 s7) (.int .i64 pc)
          have b9 := put9_below b (show w.heap.size ≤ w.heap.size + 1 + 1 by omega) (.int .u32 s0) (.int .u32 s1) (.int .u32 s2) (.int .u32 s3) (.int .u32 s4) (.int .u32 s5) (.int .u32 s6) (.int .u32 s7) (.int .i64 pc)
          clear q q2 b
          go_wp
          generalize hv9 : (((((((((y.setCell ⟨(w.heap.size + 1 + 1), 0, none⟩ (.int .u32 s0)).setCell ⟨(w.heap.size + 1 + 1), 1, none⟩ (.int .u32 s1)).setCell ⟨(w.heap.size + 1 + 1), 2, none⟩ (.int .u32 s2)).setCell ⟨(w.heap.size + 1 + 1), 3, none⟩ (.int .u32 s3)).setCell ⟨(w.heap.size + 1 + 1), 4, none⟩ (.int .u32 s4)).setCell ⟨(w.heap.size + 1 + 1), 5, none⟩ (.int .u32 s5)).setCell ⟨(w.heap.size + 1 + 1), 6, none⟩ (.int .u32 s6)).setCell ⟨(w.heap.size + 1 + 1), 7, none⟩ (.int .u32 s7)).setCell ⟨(w.heap.size + 1 + 1), 8, none⟩ (.int .i64 pc)) = v9
          replace hv9 : put9 y (w.heap.size + 1 + 1) (.int .u32 s0) (.int .u32 s1) (.int .u32 s2) (.int .u32 s3) (.int .u32 s4) (.int .u32 s5) (.int .u32 s6) (.int .u32 s7) (.int .i64 pc) = v9 := hv9
          rw [hv9] at h9 b9
          obtain ⟨y0, y1, y2, y3, y4, y5, y6, y7, y8⟩ := Cb.cells (r0 := s0) (r1 := s1) (r2 := s2) (r3 := s3) (r4 := s4) (r5 := s5) (r6 := s6) (r7 := s7) (pc := pc) h9
          exact bodyPost_ret (v := .tuple #[.agg #[.int .u32 s0, .int .u32 s1, .int .u32 s2, .int .u32 s3, .int .u32 s4, .int .u32 s5, .int .u32 s6, .int .u32 s7, .int .i64 pc], .bool true]) (by simp [results, Tryz.results87, go_sem, y0, y1, y2, y3, y4, y5, y6, y7, y8]) rfl ⟨by rw [HA.out]; rfl, b9⟩
        · have hpn : ¬ pl = -1 := by omega
          have hpn2 : (pl != -1) = true := by simp; omega
          replace HA : Hid (A = (⟨[s0, s1, s2, s3, s4, s5, s6, s7], pl⟩, false)) := Lib.hid (by rw [HA.out]; simp [hpn])
          clear hpn hpl
          go_upto_region 5 with fail
          clear cT cD e0 e1 e2 e3 e4 e5 e6 e7 zf
          generalize x.setCell ⟨w.heap.size, dn, none⟩ (.int .u32 v) = y at *
          obtain ⟨c0, c1, c2, c3, c4, c5, c6, c7, c8⟩ := q.cells
          obtain ⟨e0, e1, e2, e3, e4, e5, e6, e7⟩ := Ib.cells (i := ⟨op, dn, s, tn, u, a', 1, pl⟩) q1
          simp only at e0 e1 e2 e3 e4 e5 e6 e7
          have zf := Bk.free q
          go_upto_region 9 with fail
          have o0 : Cb (y.setCell ⟨w.heap.size, 8, none⟩ (.int .i64 pl)) w.heap.size [s0, s1, s2, s3, s4, s5, s6, s7] pl := Bk.put q 8 (.int .i64 pl)
          have o2 : Cb (y.setCell ⟨w.heap.size, 8, none⟩ (.int .i64 pl)) _ _ _ := Bk.off q2 (p := ⟨w.heap.size, 8, none⟩) (by show w.heap.size + 1 + 1 ≠ w.heap.size; omega) (.int .i64 pl)
          have o3 := b.setCell (p := ⟨w.heap.size, 8, none⟩) (Nat.le_refl _) (.int .i64 pl)
          clear q q2 b c0 c1 c2 c3 c4 c5 c6 c7 c8 zf e0 e1 e2 e3 e4 e5 e6 e7
          generalize y.setCell ⟨w.heap.size, 8, none⟩ (.int .i64 pl) = y at *
          have q := o0
          have q2 := o2
          have b := o3
          clear o0 o2 o3
          obtain ⟨c0, c1, c2, c3, c4, c5, c6, c7, c8⟩ := q.cells
          have zf := Bk.free q2
          obtain ⟨z0, z1, z2, z3, z4, z5, z6, z7, z8⟩ := q2.cells
          have h9 := put9_bk q2 (.int .u32 s0) (.int .u32 s1) (.int .u32 s2) (.int .u32 s3) (.int .u32 s4) (.int .u32 s5) (.int .u32 s6) (.int .u32 s7) (.int .i64 pl)
          have b9 := put9_below b (show w.heap.size ≤ w.heap.size + 1 + 1 by omega) (.int .u32 s0) (.int .u32 s1) (.int .u32 s2) (.int .u32 s3) (.int .u32 s4) (.int .u32 s5) (.int .u32 s6) (.int .u32 s7) (.int .i64 pl)
          clear q q2 b
          go_wp
          generalize hv9 : (((((((((y.setCell ⟨(w.heap.size + 1 + 1), 0, none⟩ (.int .u32 s0)).setCell ⟨(w.heap.size + 1 + 1), 1, none⟩ (.int .u32 s1)).setCell ⟨(w.heap.size + 1 + 1), 2, none⟩ (.int .u32 s2)).setCell ⟨(w.heap.size + 1 + 1), 3, none⟩ (.int .u32 s3)).setCell ⟨(w.heap.size + 1 + 1), 4, none⟩ (.int .u32 s4)).setCell ⟨(w.heap.size + 1 + 1), 5, none⟩ (.int .u32 s5)).setCell ⟨(w.heap.size + 1 + 1), 6, none⟩ (.int .u32 s6)).setCell ⟨(w.heap.size + 1 + 1), 7, none⟩ (.int .u32 s7)).setCell ⟨(w.heap.size + 1 + 1), 8, none⟩ (.int .i64 pl)) = v9
          replace hv9 : put9 y (w.heap.size + 1 + 1) (.int .u32 s0) (.int .u32 s1) (.int .u32 s2) (.int .u32 s3) (.int .u32 s4) (.int .u32 s5) (.int .u32 s6) (.int .u32 s7) (.int .i64 pl) = v9 := hv9
          rw [hv9] at h9 b9
          obtain ⟨y0, y1, y2, y3, y4, y5, y6, y7, y8⟩ := Cb.cells (r0 := s0) (r1 := s1) (r2 := s2) (r3 := s3) (r4 := s4) (r5 := s5) (r6 := s6) (r7 := s7) (pc := pl) h9
          exact bodyPost_ret (v := .tuple #[.agg #[.int .u32 s0, .int .u32 s1, .int .u32 s2, .int .u32 s3, .int .u32 s4, .int .u32 s5, .int .u32 s6, .int .u32 s7, .int .i64 pl], .bool false]) (by simp [results, Tryz.results87, go_sem, y0, y1, y2, y3, y4, y5, y6, y7, y8]) rfl ⟨by rw [HA.out]; rfl, b9⟩
  · have hne : (v == V) = false := by simpa using hV
    replace HA := And.intro HA (Lib.hid hV)
    clear hV
    obtain ⟨HA, HV⟩ := HA
    rcases hk with rfl | rfl
    · cases late with
      | false =>
        replace HA : Hid (A = (⟨[s0, s1, s2, s3, s4, s5, s6, s7], pc⟩, true)) := Lib.hid (by rw [HA.out]; simp [HV.out])
        clear hpl
        go_upto_region 5 with fail
        clear cT cD e0 e1 e2 e3 e4 e5 e6 e7 zf
        generalize x.setCell ⟨w.heap.size, dn, none⟩ (.int .u32 v) = y at *
        obtain ⟨c0, c1, c2, c3, c4, c5, c6, c7, c8⟩ := q.cells
        obtain ⟨e0, e1, e2, e3, e4, e5, e6, e7⟩ := Ib.cells (i := ⟨op, dn, s, tn, u, a', 0, pl⟩) q1
        simp only at e0 e1 e2 e3 e4 e5 e6 e7
        have zf := Bk.free q
        go_upto_region 4 with fail
        clear c0 c1 c2 c3 c4 c5 c6 c7 c8 zf e0 e1 e2 e3 e4 e5 e6 e7
        obtain ⟨c0, c1, c2, c3, c4, c5, c6, c7, c8⟩ := q.cells
        have zf := Bk.free q2
        obtain ⟨z0, z1, z2, z3, z4, z5, z6, z7, z8⟩ := q2.cells
        have h9 := put9_bk q2 (.int .u32 s0) (.int .u32 s1) (.int .u32 s2) (.int .u32 s3) (.int .u32 s4) (.int .u32 s5) (.int .u32 s6) (.int .u32 s7) (.int .i64 pc)
        have b9 := put9_below b (show w.heap.size ≤ w.heap.size + 1 + 1 by omega) (.int .u32 s0) (.int .u32 s1) (.int .u32 s2) (.int .u32 s3) (.int .u32 s4) (.int .u32 s5) (.int .u32 s6) (.int .u32 s7) (.int .i64 pc)
        clear q q2 b
        go_wp
        generalize hv9 : (((((((((y.setCell ⟨(w.heap.size + 1 + 1), 0, none⟩ (.int .u32 s0)).setCell ⟨(w.heap.size + 1 + 1), 1, none⟩ (.int .u32 s1)).setCell ⟨(w.heap.size + 1 + 1), 2, none⟩ (.int .u32 s2)).setCell ⟨(w.heap.size + 1 + 1), 3, none⟩ (.int .u32 s3)).setCell ⟨(w.heap.size + 1 + 1), 4, none⟩ (.int .u32 s4)).setCell ⟨(w.heap.size + 1 + 1), 5, none⟩ (.int .u32 s5)).setCell ⟨(w.heap.size + 1 + 1), 6, none⟩ (.int .u32 s6)).setCell ⟨(w.heap.size + 1 + 1), 7, none⟩ (.int .u32 s7)).setCell ⟨(w.heap.size + 1 + 1), 8, none⟩ (.int .i64 pc)) = v9
        replace hv9 : put9 y (w.heap.size + 1 + 1) (.int .u32 s0) (.int .u32 s1) (.int .u32 s2) (.int .u32 s3) (.int .u32 s4) (.int .u32 s5) (.int .u32 s6) (.int .u32 s7) (.int .i64 pc) = v9 := hv9
        rw [hv9] at h9 b9
        obtain ⟨y0, y1, y2, y3, y4, y5, y6, y7, y8⟩ := Cb.cells (r0 := s0) (r1 := s1) (r2 := s2) (r3 := s3) (r4 := s4) (r5 := s5) (r6 := s6) (r7 := s7) (pc := pc) h9
        exact bodyPost_ret (v := .tuple #[.agg #[.int .u32 s0, .int .u32 s1, .int .u32 s2, .int .u32 s3, .int .u32 s4, .int .u32 s5, .int .u32 s6, .int .u32 s7, .int .i64 pc], .bool true]) (by simp [results, Tryz.results87, go_sem, y0, y1, y2, y3, y4, y5, y6, y7, y8]) rfl ⟨by rw [HA.out]; rfl, b9⟩
      | true =>
        rcases hpl with rfl | ⟨hpl, _⟩
        · replace HA : Hid (A = (⟨[s0, s1, s2, s3, s4, s5, s6, s7], pc⟩, true)) := Lib.hid (by rw [HA.out]; simp [HV.out])
          go_upto_region 5 with fail
          clear cT cD e0 e1 e2 e3 e4 e5 e6 e7 zf
          generalize x.setCell ⟨w.heap.size, dn, none⟩ (.int .u32 v) = y at *
          obtain ⟨c0, c1, c2, c3, c4, c5, c6, c7, c8⟩ := q.cells
          obtain ⟨e0, e1, e2, e3, e4, e5, e6, e7⟩ := Ib.cells (i := ⟨op, dn, s, tn, u, a', 0, -1⟩) q1
          simp only at e0 e1 e2 e3 e4 e5 e6 e7
          have zf := Bk.free q
          go_upto_region 4 with fail
          clear c0 c1 c2 c3 c4 c5 c6 c7 c8 zf e0 e1 e2 e3 e4 e5 e6 e7
          obtain ⟨c0, c1, c2, c3, c4, c5, c6, c7, c8⟩ := q.cells
          have zf := Bk.free q2
          obtain ⟨z0, z1, z2, z3, z4, z5, z6, z7, z8⟩ := q2.cells
          have h9 := put9_bk q2 (.int .u32 s0) (.int .u32 s1) (.int .u32 s2) (.int .u32 s3) (.int .u32 s4) (.int .u32 s5) (.int .u32 s6) (.int .u32 s7) (.int .i64 pc)
          have b9 := put9_below b (show w.heap.size ≤ w.heap.size + 1 + 1 by omega) (.int .u32 s0) (.int .u32 s1) (.int .u32 s2) (.int .u32 s3) (.int .u32 s4) (.int .u32 s5) (.int .u32 s6) (.int .u32 s7) (.int .i64 pc)
          clear q q2 b
          go_wp
          generalize hv9 : (((((((((y.setCell ⟨(w.heap.size + 1 + 1), 0, none⟩ (.int .u32 s0)).setCell ⟨(w.heap.size + 1 + 1), 1, none⟩ (.int .u32 s1)).setCell ⟨(w.heap.size + 1 + 1), 2, none⟩ (.int .u32 s2)).setCell ⟨(w.heap.size + 1 + 1), 3, none⟩ (.int .u32 s3)).setCell ⟨(w.heap.size + 1 + 1), 4, none⟩ (.int .u32 s4)).setCell ⟨(w.heap.size + 1 + 1), 5, none⟩ (.int .u32 s5)).setCell ⟨(w.heap.size + 1 + 1), 6, none⟩ (.int .u32 s6)).setCell ⟨(w.heap.size + 1 + 1), 7, none⟩ (.int .u32 s7)).setCell ⟨(w.heap.size + 1 + 1), 8, none⟩ (.int .i64 pc)) = v9
          replace hv9 : put9 y (w.heap.size + 1 + 1) (.int .u32 s0) (.int .u32 s1) (.int .u32 s2) (.int .u32 s3) (.int .u32 s4) (.int .u32 s5) (.int .u32 s6) (.int .u32 s7) (.int .i64 pc) = v9 := hv9
          rw [hv9] at h9 b9
          obtain ⟨y0, y1, y2, y3, y4, y5, y6, y7, y8⟩ := Cb.cells (r0 := s0) (r1 := s1) (r2 := s2) (r3 := s3) (r4 := s4) (r5 := s5) (r6 := s6) (r7 := s7) (pc := pc) h9
          exact bodyPost_ret (v := .tuple #[.agg #[.int .u32 s0, .int .u32 s1, .int .u32 s2, .int .u32 s3, .int .u32 s4, .int .u32 s5, .int .u32 s6, .int .u32 s7, .int .i64 pc], .bool true]) (by simp [results, Tryz.results87, go_sem, y0, y1, y2, y3, y4, y5, y6, y7, y8]) rfl ⟨by rw [HA.out]; rfl, b9⟩
        · have hpn : ¬ pl = -1 := by omega
          have hpn2 : (pl != -1) = true := by simp; omega
          replace HA : Hid (A = (⟨[s0, s1, s2, s3, s4, s5, s6, s7], pl⟩, false)) := Lib.hid (by rw [HA.out]; simp [hpn, HV.out])
          clear hpn hpl
          go_upto_region 5 with fail
          clear cT cD e0 e1 e2 e3 e4 e5 e6 e7 zf
          generalize x.setCell ⟨w.heap.size, dn, none⟩ (.int .u32 v) = y at *
          obtain ⟨c0, c1, c2, c3, c4, c5, c6, c7, c8⟩ := q.cells
          obtain ⟨e0, e1, e2, e3, e4, e5, e6, e7⟩ := Ib.cells (i := ⟨op, dn, s, tn, u, a', 0, pl⟩) q1
          simp only at e0 e1 e2 e3 e4 e5 e6 e7
          have zf := Bk.free q
          go_upto_region 9 with fail
          have o0 : Cb (y.setCell ⟨w.heap.size, 8, none⟩ (.int .i64 pl)) w.heap.size [s0, s1, s2, s3, s4, s5, s6, s7] pl := Bk.put q 8 (.int .i64 pl)
          have o2 : Cb (y.setCell ⟨w.heap.size, 8, none⟩ (.int .i64 pl)) _ _ _ := Bk.off q2 (p := ⟨w.heap.size, 8, none⟩) (by show w.heap.size + 1 + 1 ≠ w.heap.size; omega) (.int .i64 pl)
          have o3 := b.setCell (p := ⟨w.heap.size, 8, none⟩) (Nat.le_refl _) (.int .i64 pl)
          clear q q2 b c0 c1 c2 c3 c4 c5 c6 c7 c8 zf e0 e1 e2 e3 e4 e5 e6 e7
          generalize y.setCell ⟨w.heap.size, 8, none⟩ (.int .i64 pl) = y at *
          have q := o0
          have q2 := o2
          have b := o3
          clear o0 o2 o3
          obtain ⟨c0, c1, c2, c3, c4, c5, c6, c7, c8⟩ := q.cells
          have zf := Bk.free q2
          obtain ⟨z0, z1, z2, z3, z4, z5, z6, z7, z8⟩ := q2.cells
          have h9 := put9_bk q2 (.int .u32 s0) (.int .u32 s1) (.int .u32 s2) (.int .u32 s3) (.int .u32 s4) (.int .u32 s5) (.int .u32 s6) (.int .u32 s7) (.int .i64 pl)
          have b9 := put9_below b (show w.heap.size ≤ w.heap.size + 1 + 1 by omega) (.int .u32 s0) (.int .u32 s1) (.int .u32 s2) (.int .u32 s3) (.int .u32 s4) (.int .u32 s5) (.int .u32 s6) (.int .u32 s7) (.int .i64 pl)
          clear q q2 b
          go_wp
          generalize hv9 : (((((((((y.setCell ⟨(w.heap.size + 1 + 1), 0, none⟩ (.int .u32 s0)).setCell ⟨(w.heap.size + 1 + 1), 1, none⟩ (.int .u32 s1)).setCell ⟨(w.heap.size + 1 + 1), 2, none⟩ (.int .u32 s2)).setCell ⟨(w.heap.size + 1 + 1), 3, none⟩ (.int .u32 s3)).setCell ⟨(w.heap.size + 1 + 1), 4, none⟩ (.int .u32 s4)).setCell ⟨(w.heap.size + 1 + 1), 5, none⟩ (.int .u32 s5)).setCell ⟨(w.heap.size + 1 + 1), 6, none⟩ (.int .u32 s6)).setCell ⟨(w.heap.size + 1 + 1), 7, none⟩ (.int .u32 s7)).setCell ⟨(w.heap.size + 1 + 1), 8, none⟩ (.int .i64 pl)) = v9
          replace hv9 : put9 y (w.heap.size + 1 + 1) (.int .u32 s0) (.int .u32 s1) (.int .u32 s2) (.int .u32 s3) (.int .u32 s4) (.int .u32 s5) (.int .u32 s6) (.int .u32 s7) (.int .i64 pl) = v9 := hv9
          rw [hv9] at h9 b9
          obtain ⟨y0, y1, y2, y3, y4, y5, y6, y7, y8⟩ := Cb.cells (r0 := s0) (r1 := s1) (r2 := s2) (r3 := s3) (r4 := s4) (r5 := s5) (r6 := s6) (r7 := s7) (pc := pl) h9
          exact bodyPost_ret (v := .tuple #[.agg #[.int .u32 s0, .int .u32 s1, .int .u32 s2, .int .u32 s3, .int .u32 s4, .int .u32 s5, .int .u32 s6, .int .u32 s7, .int .i64 pl], .bool false]) (by simp [results, Tryz.results87, go_sem, y0, y1, y2, y3, y4, y5, y6, y7, y8]) rfl ⟨by rw [HA.out]; rfl, b9⟩
    · replace HA : Hid (A = (⟨[s0, s1, s2, s3, s4, s5, s6, s7], pc + 1⟩, false)) := Lib.hid (by rw [HA.out]; simp [HV.out])
      clear hpl
      go_upto_region 5 with fail
      clear cT cD e0 e1 e2 e3 e4 e5 e6 e7 zf
      generalize x.setCell ⟨w.heap.size, dn, none⟩ (.int .u32 v) = y at *
      obtain ⟨c0, c1, c2, c3, c4, c5, c6, c7, c8⟩ := q.cells
      obtain ⟨e0, e1, e2, e3, e4, e5, e6, e7⟩ := Ib.cells (i := ⟨op, dn, s, tn, u, a', 1, pl⟩) q1
      simp only at e0 e1 e2 e3 e4 e5 e6 e7
      have zf := Bk.free q
      go_upto_region 9 with fail
      have o0 : Cb (y.setCell ⟨w.heap.size, 8, none⟩ (.int .i64 (pc + 1))) w.heap.size [s0, s1, s2, s3, s4, s5, s6, s7] (pc + 1) := Bk.put q 8 (.int .i64 (pc + 1))
      have o2 : Cb (y.setCell ⟨w.heap.size, 8, none⟩ (.int .i64 (pc + 1))) _ _ _ := Bk.off q2 (p := ⟨w.heap.size, 8, none⟩) (by show w.heap.size + 1 + 1 ≠ w.heap.size; omega) (.int .i64 (pc + 1))
      have o3 := b.setCell (p := ⟨w.heap.size, 8, none⟩) (Nat.le_refl _) (.int .i64 (pc + 1))
      clear q q2 b c0 c1 c2 c3 c4 c5 c6 c7 c8 zf e0 e1 e2 e3 e4 e5 e6 e7
      generalize y.setCell ⟨w.heap.size, 8, none⟩ (.int .i64 (pc + 1)) = y at *
      have q := o0
      have q2 := o2
      have b := o3
      clear o0 o2 o3
      obtain ⟨c0, c1, c2, c3, c4, c5, c6, c7, c8⟩ := q.cells
      have zf := Bk.free q2
      obtain ⟨z0, z1, z2, z3, z4, z5, z6, z7, z8⟩ := q2.cells
      have h9 := put9_bk q2 (.int .u32 s0) (.int .u32 s1) (.int .u32 s2) (.int .u32 s3) (.int .u32 s4) (.int .u32 s5) (.int .u32 s6) (.int .u32 s7) (.int .i64 (pc + 1))
      have b9 := put9_below b (show w.heap.size ≤ w.heap.size + 1 + 1 by omega) (.int .u32 s0) (.int .u32 s1) (.int .u32 s2) (.int .u32 s3) (.int .u32 s4) (.int .u32 s5) (.int .u32 s6) (.int .u32 s7) (.int .i64 (pc + 1))
      clear q q2 b
      go_wp
      generalize hv9 : (((((((((y.setCell ⟨(w.heap.size + 1 + 1), 0, none⟩ (.int .u32 s0)).setCell ⟨(w.heap.size + 1 + 1), 1, none⟩ (.int .u32 s1)).setCell ⟨(w.heap.size + 1 + 1), 2, none⟩ (.int .u32 s2)).setCell ⟨(w.heap.size + 1 + 1), 3, none⟩ (.int .u32 s3)).setCell ⟨(w.heap.size + 1 + 1), 4, none⟩ (.int .u32 s4)).setCell ⟨(w.heap.size + 1 + 1), 5, none⟩ (.int .u32 s5)).setCell ⟨(w.heap.size + 1 + 1), 6, none⟩ (.int .u32 s6)).setCell ⟨(w.heap.size + 1 + 1), 7, none⟩ (.int .u32 s7)).setCell ⟨(w.heap.size + 1 + 1), 8, none⟩ (.int .i64 (pc + 1))) = v9
      replace hv9 : put9 y (w.heap.size + 1 + 1) (.int .u32 s0) (.int .u32 s1) (.int .u32 s2) (.int .u32 s3) (.int .u32 s4) (.int .u32 s5) (.int .u32 s6) (.int .u32 s7) (.int .i64 (pc + 1)) = v9 := hv9
      rw [hv9] at h9 b9
      obtain ⟨y0, y1, y2, y3, y4, y5, y6, y7, y8⟩ := Cb.cells (r0 := s0) (r1 := s1) (r2 := s2) (r3 := s3) (r4 := s4) (r5 := s5) (r6 := s6) (r7 := s7) (pc := (pc + 1)) h9
      exact bodyPost_ret (v := .tuple #[.agg #[.int .u32 s0, .int .u32 s1, .int .u32 s2, .int .u32 s3, .int .u32 s4, .int .u32 s5, .int .u32 s6, .int .u32 s7, .int .i64 (pc + 1)], .bool false]) (by simp [results, Tryz.results87, go_sem, y0, y1, y2, y3, y4, y5, y6, y7, y8]) rfl ⟨by rw [HA.out]; rfl, b9⟩
end
end Go.Proofs.YtpinpipjlongaaaGreat
