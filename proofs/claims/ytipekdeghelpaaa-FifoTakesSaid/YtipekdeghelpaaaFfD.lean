/- Layer 13's program: Take, Queue, New. -/
import Derived.Test.YtipekdeghelpaaaFfC
namespace Go.Proofs.Ytipekdeghelpaaa
open Go.ChangeShapes Go.WideShapes Go.ChangeAt Go.RowKit
set_option linter.unusedVariables false

/-- The lock, as its calls leave it: nothing but its own blocks, and what is new, has changed; the queue's row is the same one, or new. -/
structure Took (w : World) (p s : Nat) (v : Value) (st q : List Int) (now : Int) (w' : World) (v' : Value) : Prop where
  ok : Ffk w' p s v' st q now
  within : Within w w' (InFf p s v)
  own : ∀ g, v'.ownBlock = some g → v.ownBlock = some g ∨ w.heap.size ≤ g
section
variable {w w' : World} {p s : Nat} {v v' : Value} {st q : List Int} {now : Int}
theorem Took.more (h : Took w p s v st q now w' v') {p2 : Nat} {w2 : World} (hb : Below w'.heap.size w' w2) : Took w p s v st q now w2 v' :=
  ⟨h.ok.below hb, h.within.then_ (within_of_below hb) (fun i hi => hi.elim), h.own⟩
/-- What came ahead changed no more. -/
theorem Took.ahead {w0 : World} (hw : Within w0 w (InFf p s v)) (h : Took w p s v st q now w' v') : Took w0 p s v st q now w' v' :=
  ⟨h.ok, hw.then_ h.within (fun i hi => .inl hi), fun g e => (h.own g e).imp id (fun h2 => Nat.le_trans hw.size h2)⟩
/-- A struct's cell is another. -/
theorem Ffk.putNow (h : Ffk w p s v st q now) (n : Int) : Ffk (w.setCell ⟨p, 2, none⟩ (.int .i64 n)) p s v st q n := by
  have hw : Within w (w.setCell ⟨p, 2, none⟩ (.int .i64 n)) (fun b => b = p) := (Within.refl w (fun b => b = p)).put p 2 _ (.inl rfl)
  refine ⟨?_, h.its.within hw (fun e => h.ps e.symm), h.lst.within hw (fun g e e2 => h.pv (by rw [e, e2])), h.apart⟩
  have := h.bk.put 2 (.int .i64 n)
  simpa only [List.setIfInBounds_toArray, List.set_cons_zero, List.set_cons_succ] using this
theorem Ffk.putSt (h : Ffk w p s v st q now) (i : Nat) (n : Int) : Ffk (w.setCell ⟨s, i, none⟩ (.int .i64 n)) p s v (st.set i n) q now := by
  have hw : Within w (w.setCell ⟨s, i, none⟩ (.int .i64 n)) (fun b => b = s) := (Within.refl w (fun b => b = s)).put s i _ (.inl rfl)
  refine ⟨?_, ?_, h.lst.within hw (fun g e e2 => h.apart (by rw [e, e2])), h.apart⟩
  · rw [List.length_set]
    exact h.bk.within hw h.ps
  · rw [List.length_set]
    exact h.its.put i n
/-- The queue is another slice. -/
theorem Ffk.putQ {w2 : World} {q' : List Int} (h : Ffk w p s v st q now) (hg : Within w w2 (fun b => v.ownBlock = some b)) (hl : Lst .i64 3 w2 v' q') (ho : ∀ g, v'.ownBlock = some g → v.ownBlock = some g ∨ w.heap.size ≤ g) :
    Took w p s v st q' now (w2.setCell ⟨p, 1, none⟩ v') v' := by
  have hps : v'.ownBlock ≠ some p := by
    intro e
    rcases ho p e with e2 | e2
    · exact h.pv e2
    · have := h.bk.lt; omega
  have hss : v'.ownBlock ≠ some s := by
    intro e
    rcases ho s e with e2 | e2
    · exact h.apart e2
    · have := h.its.lt; omega
  have hw : Within w2 (w2.setCell ⟨p, 1, none⟩ v') (fun b => b = p) := (Within.refl w2 (fun b => b = p)).put p 1 _ (.inl rfl)
  refine ⟨⟨?_, (h.its.within hg h.apart).within hw (fun e => h.ps e.symm), hl.within hw (fun g e e2 => hps (by rw [e, e2])), hss⟩, ?_, ho⟩
  · have := (h.bk.within hg h.pv).put 1 v'
    simpa only [List.setIfInBounds_toArray, List.set_cons_zero, List.set_cons_succ] using this
  · exact (hg.wide (S' := InFf p s v) (fun i hi _ => .inr (.inr hi))).then_ hw (fun i hi => .inl (.inl hi))
end

/-- What holds behind Take. -/
def Taken (w : World) (p s : Nat) (v : Value) (st q : List Int) (now : Int) (x : En) (w' : World) : Prop :=
  ∃ v', Took w p s v (if fitB st q now x = true then st.set x.th.toNat (mvT x.kind) else st) (if fitB st q now x = true then qNext q x else q) (if fitB st q now x = true then x.now else now) w' v'

set_option maxHeartbeats 2000000 in
theorem fTake {w : World} {p s : Nat} {v : Value} {st q : List Int} {now : Int} (h : Ffk w p s v st q now) (x : En) (hq : q.length ≤ 100) (hm : fitB st q now x = true → x.kind = 3 ∨ x.kind = 4 → x.th ∈ q) :
    Calls Try.prog 14 #[.pointer (some ⟨p, 0, none⟩), enV x] w fun e w' => e = .returned (.bool (fitB st q now x)) ∧ Taken w p s v st q now x w' := by
  have hbz : Below w.heap.size w (w.alloc (.cells #[.int .i64 x.kind, .int .i64 x.th, .int .i64 x.now] 38)) := (Below.refl _ _).alloc (Nat.le_refl _) _
  have hz := h.below hbz
  have hNb := Nb.made 38 w x.kind x.th x.now
  have HB := Lib.hid (fBehind hz x)
  have HT : Hid (Taken w p s v st q now x = fun w' => ∃ v', Took w p s v (if fitB st q now x = true then st.set x.th.toNat (mvT x.kind) else st) (if fitB st q now x = true then qNext q x else q) (if fitB st q now x = true then x.now else now) w' v') := Lib.hid rfl
  generalize Taken w p s v st q now x = T at *
  cases hf : fitB st q now x with
  | false =>
    rw [hf] at HB
    simp only [hf, Bool.false_eq_true, if_false] at HT
    unfold behV at HB
    have HEND : Hid (∀ u, Below (w.alloc (.cells #[.int .i64 x.kind, .int .i64 x.th, .int .i64 x.now] 38)).heap.size (w.alloc (.cells #[.int .i64 x.kind, .int .i64 x.th, .int .i64 x.now] 38)) u → T u) := Lib.hid (fun u hu => by
      rw [HT.out]
      have hbu := boxE hu
      exact ⟨v, h.below hbu, (within_of_below hbu).wide (fun i hi _ => hi.elim), fun g e => .inl e⟩)
    obtain ⟨xk, xt, xn⟩ := x
    unfold enV at *
    simp only at *
    clear hm hf h HT
    go_enter Try.func14, Try.ntmps14
    go_upto_region 1 with fail
    generalize w.alloc (.cells #[.int .i64 xk, .int .i64 xt, .int .i64 xn] 38) = z at *
    generalize w.heap.size = b at *
    obtain ⟨e0, e1, e2⟩ := hNb.cells
    simp only at e0 e1 e2
    clear hNb hbz
    go_wp2_with fail
    refine HB.out.mono ?_
    rintro e u ⟨rfl, hu⟩
    go_wp2
    go_ret
    exact ⟨rfl, HEND.out u hu⟩
  | true =>
    rw [hf] at HB
    simp only [hf, if_true] at HT
    unfold behV at HB
    simp only [if_true] at HB
    have hth : 0 ≤ x.th ∧ x.th < (st.length : Int) := by
      unfold fitB at hf
      simp only [Bool.and_eq_true, decide_eq_true_eq] at hf
      exact hf.1
    have hmm := hm hf
    clear hm hf
    obtain ⟨xk, xt, xn⟩ := x
    unfold enV at *
    simp only at *
    obtain ⟨k, rfl⟩ : ∃ k : Nat, xt = (k : Int) := ⟨xt.toNat, by omega⟩
    obtain ⟨h0, h1⟩ := hth
    have hk : k < st.length := by omega
    rw [Int.toNat_natCast] at HT
    have HS : Hid (∀ u, Below (w.alloc (.cells #[.int .i64 xk, .int .i64 (k : Int), .int .i64 xn] 38)).heap.size (w.alloc (.cells #[.int .i64 xk, .int .i64 (k : Int), .int .i64 xn] 38)) u → Ffk u p s v st q now) := Lib.hid (fun u hu => hz.below hu)
    have HWZ : Hid (∀ u, Below (w.alloc (.cells #[.int .i64 xk, .int .i64 (k : Int), .int .i64 xn] 38)).heap.size (w.alloc (.cells #[.int .i64 xk, .int .i64 (k : Int), .int .i64 xn] 38)) u → Within w u (InFf p s v)) := Lib.hid (fun u hu => (within_of_below (boxE hu)).wide (fun i hi _ => hi.elim))
    generalize mvT xk = mt at *
    go_enter Try.func14, Try.ntmps14
    go_upto_region 1 with fail
    have hpb : p ≠ w.heap.size := fun e => by have := h.bk.lt; omega
    have hsb : s ≠ w.heap.size := fun e => by have := h.its.lt; omega
    generalize hzz : w.alloc (.cells #[.int .i64 xk, .int .i64 (k : Int), .int .i64 xn] 38) = z at *
    have HZ := Lib.hid hzz
    clear hzz
    generalize hwb : w.heap.size = b at *
    have HWB := Lib.hid hwb
    clear hwb
    obtain ⟨e0, e1, e2⟩ := hNb.cells
    simp only at e0 e1 e2
    go_wp2_with fail
    refine HB.out.mono ?_
    rintro e u ⟨rfl, hu⟩
    have hfu := HS.out u hu
    have hNu := hNb.below hu
    obtain ⟨e0', e1', e2'⟩ := hNu.cells
    obtain ⟨f0, f1, f2⟩ := hfu.cells
    have ff := hfu.bk.free 2
    simp only at e0' e1' e2'
    go_upto_region 5 with fail
    have hf1 := hfu.putNow xn
    have hw1 : Within u (u.setCell ⟨p, 2, none⟩ (.int .i64 xn)) (fun i => i = p) := (Within.refl u (fun i => i = p)).put p 2 _ (.inl rfl)
    have hN1 : Nb 38 (u.setCell ⟨p, 2, none⟩ (.int .i64 xn)) b ⟨xk, (k : Int), xn⟩ := Bk.within hNu hw1 (fun e => hpb e.symm)
    generalize u.setCell ⟨p, 2, none⟩ (.int .i64 xn) = u1 at *
    obtain ⟨d0, d1, d2⟩ := hN1.cells
    obtain ⟨g0, g1, g2⟩ := hf1.cells
    have gs := hf1.its.at_ hk
    have gf := hf1.its.free k
    simp only at d0 d1 d2
    generalize nth st k = y at gs
    clear f0 f1 f2 ff e0' e1' e2' e0 e1 e2
    go_region
    have hf2 : Ffk (u1.setCell ⟨s, k, none⟩ (.int .i64 mt)).drew p s v (st.set k mt) q xn := ⟨(hf1.putSt k mt).bk, (hf1.putSt k mt).its, (hf1.putSt k mt).lst, (hf1.putSt k mt).apart⟩
    have hw2 : Within u1 (u1.setCell ⟨s, k, none⟩ (.int .i64 mt)).drew (fun i => i = s) := ((Within.refl u1 (fun i => i = s)).put s k _ (.inl rfl)).draws 1
    have hN2 : Nb 38 (u1.setCell ⟨s, k, none⟩ (.int .i64 mt)).drew b ⟨xk, (k : Int), xn⟩ := Bk.within hN1 hw2 (fun e => hsb e.symm)
    have HW2 : Within w (u1.setCell ⟨s, k, none⟩ (.int .i64 mt)).drew (InFf p s v) := ((HWZ.out u hu).then_ hw1 (fun i hi => .inl (.inl hi))).then_ hw2 (fun i hi => .inl (.inr (.inl hi)))
    generalize (u1.setCell ⟨s, k, none⟩ (.int .i64 mt)).drew = u2 at *
    have HEND : Hid (∀ w' v', Took u2 p s v (st.set k mt) (qNext q ⟨xk, (k : Int), xn⟩) xn w' v' → T w') := Lib.hid (fun w' v' ht => by
      rw [HT.out]
      exact ⟨v', Took.ahead HW2 ht⟩)
    obtain ⟨d0, d1, d2⟩ := hN2.cells
    obtain ⟨g0, g1, g2⟩ := hf2.cells
    simp only at d0 d1 d2
    clear gs gf hf1 hw1 hN1 hfu hNu hu hz hNb HS HB hw2 HT HWZ
    by_cases hk2 : xk = 2
    · have k2 : (xk == 2) = true := by simpa using hk2
      have hqn : qNext q ⟨xk, (k : Int), xn⟩ = q ++ [(k : Int)] := by
        unfold qNext
        simp only
        rw [if_pos hk2]
      rw [hqn] at HEND
      obtain ⟨a, cap, rfl, hc1, hc2, _⟩ := hf2.lst.is
      clear hqn hmm hk2 hN2 hc1 hc2 HW2
      go_upto_region 8 with fail
      have HA := Lib.hid (World.ownsRow.alloc (w := u2.drew) (show u2.drew.ownsRow 0 3 1 (.slice a q.length cap) q.length (q.map (Value.int .i64)) from hf2.lst) (.cells #[.int .i64 (k : Int)] 3))
      have HN := Lib.hid (news_bk (Bk.made u2.drew 3 #[.int .i64 (k : Int)]))
      have HFW : Hid (∀ w', (u2.drew.alloc (.cells #[.int .i64 (k : Int)] 3)).grownBy w' (Value.slice a q.length cap).ownBlock → w'.cell? ⟨p, 1, none⟩ = some (.slice a q.length cap) ∧ w'.frozen? ⟨p, 1, none⟩ = false) := Lib.hid (fun w' hg => by
        have := Bk.grown (Bk.alloc (w := u2.drew) hf2.bk (.cells #[.int .i64 (k : Int)] 3)) hg (fun e => hf2.pv e.symm)
        exact ⟨this.cell 1, this.free 1⟩)
      have HE2 : Hid (∀ w' v', (u2.drew.alloc (.cells #[.int .i64 (k : Int)] 3)).grownBy w' (Value.slice a q.length cap).ownBlock → w'.ownsRow 0 3 1 v' (q.length + 1) (q.map (Value.int .i64) ++ [.int .i64 (k : Int)]) → (v'.ownBlock = (Value.slice a q.length cap).ownBlock ∨ v'.ownBlock = some (u2.drew.alloc (.cells #[.int .i64 (k : Int)] 3)).heap.size) → T (w'.setCell ⟨p, 1, none⟩ v')) := Lib.hid (fun w' v' hg ho hl => HEND.out _ _ (hf2.putQ (by
          have h1 : Within u2 (u2.drew.alloc (.cells #[.int .i64 (k : Int)] 3)) (fun b => (Value.slice a q.length cap).ownBlock = some b) := ((Within.refl u2 _).draws 1).alloc _
          exact h1.then_ (Within.of_grown (S := fun b => (Value.slice a q.length cap).ownBlock = some b) hg (fun i e => .inl e)) (fun i hi => .inl hi))
        (by unfold Lst; rw [List.length_append, List.map_append]; exact ho)
        (fun g e => by
          rcases hl with e2 | e2
          · exact .inl (by rw [← e2]; exact e)
          · rw [e2] at e
            injection e with e
            right
            rw [← e, World.size_alloc]
            show u2.heap.size ≤ u2.heap.size + 1
            omega)))
      have rb : ∀ o, (u2.alloc o).cell? ⟨p, 1, none⟩ = some (.slice a q.length cap) := fun o => (hf2.bk.alloc o).cell 1
      have HQL := Lib.hid (show q.length < 100000 by omega)
      clear HEND hf2 hq
      go_region_law (refine step_own rfl (.tmp 36) (.tmp 39) 39 rfl _ 8 Try.underlying39 intinfo rfl (by omega) (by omega) HA.out (by simp [Act.eval]) [.int .i64 (k : Int)] rfl (ints_oneCell .i64 [(k : Int)]) u2.heap.size (by simp [Act.eval]) HN.out HQL.out (Nat.zero_le _) ?_; intro v' w' hown hgr hloc; obtain ⟨c0', f0'⟩ := HFW.out w' hgr; obtain ⟨a2, cap2, rfl, _, _, _⟩ := own_is hown)
      all_goals (
        have hT := HE2.out _ _ hgr hown hloc
        clear HE2 HFW HA HN
        go_wp2
        go_ret
        exact ⟨rfl, hT⟩)
    · have k2 : (xk == 2) = false := by simpa using hk2
      by_cases hk34 : xk = 3 ∨ xk = 4
      · have hmem := hmm hk34
        have hqn : qNext q ⟨xk, (k : Int), xn⟩ = q.filter (fun t => t != (k : Int)) := by
          unfold qNext
          simp only
          rw [if_neg hk2, if_pos hk34]
        rw [hqn] at HEND
        obtain ⟨a, cap, rfl, hc1, hc2, hqr⟩ := hf2.lst.is
        obtain ⟨g, rfl, hgo, _, _⟩ := hqr (List.length_pos_of_mem hmem)
        have hgb : b ≠ g := fun e => by
          obtain ⟨cs, hbk⟩ := hf2.lst.bk hgo
          exact Bk.unlike hN2 hbk (by decide) e
        have HD := Lib.hid (fDelete (b := b) hf2.lst hmem d1 hgb)
        have HE2 : Hid (∀ w', Its w' g cap (q.filter (fun t => t != (k : Int))) → Within u2 w' (fun x => x = g) → T (w'.setCell ⟨p, 1, none⟩ (.slice (some ⟨g, 0, none⟩) (q.filter (fun t => t != (k : Int))).length cap))) := Lib.hid (fun w' hi hw => HEND.out _ _ (hf2.putQ (hw.wide (fun i hi _ => by rw [hi]; exact hgo)) hi (fun g' e => .inl e)))
        have HFW : Hid (∀ w', Within u2 w' (fun x => x = g) → w'.cell? ⟨p, 1, none⟩ = some (.slice (some ⟨g, 0, none⟩) q.length cap) ∧ w'.frozen? ⟨p, 1, none⟩ = false) := Lib.hid (fun w' hw => by
          have := hf2.bk.within hw (fun e => hf2.pv (by rw [e]; exact hgo))
          exact ⟨this.cell 1, this.free 1⟩)
        generalize q.filter (fun t => t != (k : Int)) = r at *
        clear HEND hmm hmem hqn hqr hc1 hc2 hf2 hN2 HW2
        by_cases hk3 : xk = 3
        · have k3 : (xk == 3) = true := by simpa using hk3
          clear hk2 hk34 hk3
          go_wp2_with fail
          refine HD.out.mono ?_
          rintro e w' ⟨rfl, hi, hw⟩
          obtain ⟨c1', fr1⟩ := HFW.out w' hw
          have hT := HE2.out w' hi hw
          clear HE2 HD HFW hi
          go_wp2
          go_ret
          exact ⟨rfl, hT⟩
        · have k3 : (xk == 3) = false := by simpa using hk3
          have k4 : (xk == 4) = true := by simp; omega
          clear hk2 hk34 hk3
          go_wp2_with fail
          refine HD.out.mono ?_
          rintro e w' ⟨rfl, hi, hw⟩
          obtain ⟨c1', fr1⟩ := HFW.out w' hw
          have hT := HE2.out w' hi hw
          clear HE2 HD HFW hi
          go_wp2
          go_ret
          exact ⟨rfl, hT⟩
      · have k3 : (xk == 3) = false := by simp; omega
        have k4 : (xk == 4) = false := by simp; omega
        have hqn : qNext q ⟨xk, (k : Int), xn⟩ = q := by
          unfold qNext
          simp only
          rw [if_neg hk2, if_neg hk34]
        rw [hqn] at HEND
        have hT := HEND.out u2 v ⟨hf2, Within.refl _ _, fun g e => .inl e⟩
        clear HEND hmm hqn hk2 hk34 hf2 hN2 HW2
        go_wp2
        go_ret
        exact ⟨rfl, hT⟩
end Go.Proofs.Ytipekdeghelpaaa
