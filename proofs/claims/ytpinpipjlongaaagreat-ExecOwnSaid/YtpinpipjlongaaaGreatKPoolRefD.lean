/- PoolRefD, PoolRefE, PoolBoth. -/
import Derived.Test.YtpinpipjlongaaaGreatKArA
import Derived.Test.YtpinpipjlongaaaGreatKHold
import Derived.Deep.RegionLawGrows
import Derived.Deep.RegionHeld3
import Derived.Deep.Onto
import Derived.Lib.SmallJoins
import Derived.Deep.Cut
/- The document's own pool: Back. -/
namespace Go.Proofs.YtpinpipjlongaaaGreat
set_option maxRecDepth 100000
open Go.ChangeShapes Go.WideShapes Go.ChangeAt Go.RowKit

theorem setCells_one (w : World) (g o : Nat) (u : Value) : w.setCells g o [u] = w.setCell ⟨g, o, none⟩ u := rfl

/-- append of one int to a slice that lies anywhere, as a step of a region that draws its order. -/
theorem step_fs {ops : Array Oper} {o : Oper} {a : Act} {w : World} {K : Act → World → Prop} {Q : Exit → Act → World → Prop} {E : Prop} (hgd : o.guard = none) (s x : Operand)
    (ho : o.op = Op.call { callee := Callee.builtin Builtin.append, args := #[s, x], argTypes := #[25, 25] }) {v : Value} {xs : List Int} (hF : Fs w v xs) (hs : a.eval s = v) (hl : xs.length < 1000) (y : Int) (B : Nat)
    (hx : a.eval x = .slice (some ⟨B, 0, none⟩) 1 1) (hB : w.cell? ⟨B, 0, none⟩ = some (.int .i64 y))
    (hK : ∀ ad cap' w', Fs w' (.slice (some ad) (xs.length + 1) cap') (xs ++ [y]) → w.grownBy w' v.ownBlock → (some ad.block = v.ownBlock ∨ w.heap.size ≤ ad.block) → K (a.put o.dst (.slice (some ad) (xs.length + 1) cap')) w') :
    if Region.wanted o (yielded ops a.tmps) = true then Oper.wp Tryz.prog o a w K Q else E := by
  obtain ⟨i0, hi0, hz0, hz1, hz2⟩ := info_parts intinfo
  have hnews : ∀ j u, [Value.int .i64 y][j]? = some u → w.cell? ((⟨B, 0, none⟩ : Addr).add j) = some u := by
    intro j u hj
    match j, hj with
    | 0, hj => simp at hj; subst hj; exact hB
    | j + 1, hj => simp at hj
  have hone : ∀ u ∈ [Value.int .i64 y], u.oneCell' = true := ints_oneCell .i64 [y]
  have hgrown : ∀ v' w', w'.ownsRow w.heap.size 3 1 v' (xs.length + 1) (xs.map (Value.int .i64) ++ [.int .i64 y]) → w.grownBy w' none → K (a.put o.dst v') w' := by
    intro v' w' hown hg
    obtain ⟨g, cap', rfl⟩ := Joins.ownsRow_form hown (by omega)
    have hL : Lst .i64 3 w' (.slice (some ⟨g, 0, none⟩) (xs.length + 1) cap') (xs ++ [y]) := by
      unfold Lst
      have := hown.mono (Nat.zero_le _)
      simpa using this
    exact hK _ _ _ (Fs.of_lst hL) (grown_any hg) (.inr (World.ownsRow.lt hown g rfl).1)
  rcases hF with ⟨rfl, rfl⟩ | ⟨g, off, cap, cs, rfl, h1, h2, hb, h3, h4⟩
  · exact step_append_grows hgd s x 25 ho 3 i0 _ 1 8 Tryz.underlying25 hi0 hz0 hz1 hz2 rfl (by omega) none 0 0 [] hs (fun _ => ⟨rfl, rfl⟩) rfl (fun _ e => by cases e) ⟨B, 0, none⟩ 1 1 [.int .i64 y] hx rfl hnews hone (by omega) (by simp only [maxLen]; omega) (by omega) hgrown
  · by_cases hr : xs.length + 1 ≤ cap
    · refine step_append_room hgd s x 25 ho 3 i0 1 Tryz.underlying25 hi0 hz1 g off xs.length cap hs ⟨B, 0, none⟩ 1 1 [.int .i64 y] hx rfl hnews hone hr (fun j hj => ?_) ?_
      · simp at hj
        subst hj
        refine ⟨?_, hb.free _⟩
        rw [hb.cell, Nat.add_zero, Nat.mul_one]
        simp; omega
      · rw [setCells_one, Nat.mul_one]
        exact hK _ _ _ (Fs.more (.inr ⟨g, off, cap, cs, rfl, h1, h2, hb, h3, h4⟩) hr) (only_put _ _ _ _) (.inl rfl)
    · refine step_append_grows hgd s x 25 ho 3 i0 _ 1 8 Tryz.underlying25 hi0 hz0 hz1 hz2 rfl (by omega) (some ⟨g, off, none⟩) xs.length cap (xs.map (Value.int .i64)) hs (fun e => by cases e) (by simp) (fun b e j u hj => ?_) ⟨B, 0, none⟩ 1 1 [.int .i64 y] hx rfl hnews hone (by omega) (by simp only [maxLen]; omega) (by omega) hgrown
      injection e with e
      subst e
      have hj' : j < xs.length := by have := (List.getElem?_eq_some_iff.1 hj).1; simpa using this
      rw [List.getElem?_map, nth_get hj'] at hj
      have ea : (⟨g, off, none⟩ : Addr).add j = ⟨g, off + j, none⟩ := by unfold Addr.add; split <;> simp_all
      rw [ea, hb.cell, h4 j hj', ← hj]; rfl

section
variable {w w' : World} {x n each N : Nat} {R : RM} {free : Nat → List Nat} {gen out : List Int}
theorem rfBack0 : Calls Tryz.prog 33 #[.pointer (some ⟨x, 0, none⟩), .int .u32 0] w fun e w' => e = .returned (.int .i64 0) ∧ w = w' := by
  go_enter Tryz.func33, Tryz.ntmps33
  go_wp2
  go_ret
  exact ⟨rfl, rfl⟩

theorem rfBackNo (h : Rf w x n each R free gen out) (hlG : gen.length = N) (hlO : out.length = N) (hN : N ≤ 512) (hg : ∀ q, 0 ≤ nth gen q ∧ nth gen q < 262144) (ho : ∀ q, nth out q = 0 ∨ nth out q = 1) (y : Int) (y0 : 0 ≤ y) (y1 : y < 4294967296) (hy : isO N gen out y = false) (hz : y ≠ 0) :
    Calls Tryz.prog 33 #[.pointer (some ⟨x, 0, none⟩), .int .u32 y] w fun e w' => e = .returned (.int .i64 10) ∧ w = w' := by
  have hI := rfIs h hlG hlO hN hg ho y y0 y1
  rw [hy] at hI
  clear hg ho hy
  go_enter Tryz.func33, Tryz.ntmps33
  go_wp2_with fail
  refine hI.mono ?_
  rintro e w' ⟨rfl, rfl⟩
  go_wp2
  go_ret
  exact ⟨rfl, rfl⟩

/-- Behind the document's Back. -/
def RBacked (w : World) (x n each : Nat) (R : RM) (free : Nat → List Nat) (gen out : List Int) (t q : Nat) (y : Int) (e : Ending) (w' : World) : Prop :=
  ∃ R', e = .returned (.int .i64 0) ∧ Rf w' x n each R' (upd free t (free t ++ [q])) (gen.set q ((y / 4096 + 1) % 262144)) (out.set q 0) ∧ RStays w n R w' R'

theorem far {W W3 : World} {o : Obj} {r : Option Nat} {b : Nat} {t : TypeId} {cs : Array Value} (h : (W.drew.alloc o).grownBy W3 r) (hb : Bk W b t cs) (hne : some b ≠ r) : Bk W3 b t cs := Bk.grown (Bk.alloc (w := W.drew) hb o) h hne
theorem ones_snoc (l : List Nat) (q : Nat) : ones l ++ [(q : Int) + 1] = ones (l ++ [q]) := by simp [ones]

set_option maxHeartbeats 1000000 in
theorem rfBack (h : Rf w x n each R free gen out) (h64 : n ≤ 64) (h8 : each ≤ 8) (hlG : gen.length = N) (hlO : out.length = N) (hN : N ≤ 512) (hg : ∀ q, 0 ≤ nth gen q ∧ nth gen q < 262144) (ho : ∀ q, nth out q = 0 ∨ nth out q = 1) (y : Int) (y0 : 0 ≤ y) (y1 : y < 4294967296) (hy : isO N gen out y = true)
    {t i : Nat} (ht : t < n) (hi : i < each) (hq : t * each + i < N) (he : y % 4096 = ((t * each + i + 1 : Nat) : Int)) (hlf : (free t).length ≤ 8) :
    Calls Tryz.prog 33 #[.pointer (some ⟨x, 0, none⟩), .int .u32 y] w (RBacked w x n each R free gen out t (t * each + i) y) := by
  have hz : y ≠ 0 := by omega
  have hI := rfIs h hlG hlO hN hg ho y y0 y1
  rw [hy] at hI
  have hquo : (((t * each + i : Nat) : Int)).tdiv (each : Int) = (t : Int) := by
    rw [← Int.ofNat_tdiv, Nat.mul_comm, Nat.mul_add_div (by omega), Nat.div_eq_of_lt hi, Nat.add_zero]
  have hX : ∀ W, Calls Tryz.prog 60 #[.int .u32 y] W fun e w' => e = .returned (.int .i64 (((t * each + i : Nat) : Int) + 1)) ∧ W = w' := fun W => by
    have := rIndex y y0 y1 W
    rw [show y % 4096 = ((t * each + i : Nat) : Int) + 1 by omega] at this
    exact this
  have hGn : ∀ W, Calls Tryz.prog 61 #[.int .u32 ((y / 4096 + 1) % 262144 * 4096 + y % 4096)] W fun e w' => e = .returned (.int .i64 ((y / 4096 + 1) % 262144)) ∧ W = w' := fun W => by
    have := rGen ((y / 4096 + 1) % 262144 * 4096 + y % 4096) (by omega) (by omega) W
    rw [show ((y / 4096 + 1) % 262144 * 4096 + y % 4096) / 4096 % 262144 = (y / 4096 + 1) % 262144 by omega] at this
    exact this
  generalize hQ : t * each + i = q at *
  obtain ⟨aO, capO, eO, o1, o2, o3⟩ := h.ovIs
  obtain ⟨O, rfl, hO, fO, cO⟩ := o3 (by omega)
  obtain ⟨aG, capG, eG, g1, g2, g3⟩ := h.gvIs
  obtain ⟨G, rfl, hG, fG, cG⟩ := g3 (by omega)
  have c3 := h.c3
  rw [eO] at c3
  have hcq := cO q (by omega)
  have hfq := fO q
  have b1 : (q : Int) < out.length := by omega
  have b2 : (q : Int) < gen.length := by omega
  have hV1 := h.setO eO q 0
  have hS1 : RStays w n R (w.setCell ⟨O, q, none⟩ (.int .i64 0)) R := RStays.put (.inr (.inr (.inl hO)))
  have HE := Lib.hid he
  have HQ := Lib.hid hQ
  clear o3 g3 fO cO fG cG hg ho hy he hQ
  go_enter Tryz.func33, Tryz.ntmps33
  go_wp2_with fail
  refine hI.mono ?_
  clear hI
  rintro e w' ⟨rfl, rfl⟩
  go_wp2_with fail
  refine (hX _).mono ?_
  clear hX
  rintro e w' ⟨rfl, rfl⟩
  go_wp2
  clear c3 hcq hfq h
  generalize w.setCell ⟨O, q, none⟩ (.int .i64 0) = W1 at hV1 hS1 ⊢
  have d2 := hV1.c2
  rw [eG] at d2
  obtain ⟨aG', capG', eG', _, _, g3'⟩ := hV1.gvIs
  rw [eG] at eG' g3'
  obtain ⟨G', eGG, eGb, fG, cG⟩ := g3' (by omega)
  have eGG' : G' = G := by simp only [Value.ownBlock, Option.some.injEq] at eGb; exact eGb.symm
  subst eGG'
  have cGq := cG q (by omega)
  have fGq := fG q
  have hV2 := hV1.setG eG q ((y / 4096 + 1) % 262144)
  have hS2 := hS1.then_ (RStays.put (w := W1) (n := n) (R := R) (g := G') (i := q) (u := .int .i64 ((y / 4096 + 1) % 262144)) (.inr (.inl hG)))
  have hxG : x ≠ G' := by
    obtain ⟨c1', b1'⟩ := hV1.gens.bk hG
    exact Bk.unlike hV1.ptr b1' (by decide)
  have r1 : ∀ (W : World) (u : Value) (i j : Nat), (W.setCell ⟨G', i, none⟩ u).cell? ⟨x, j, none⟩ = W.cell? ⟨x, j, none⟩ := fun W u i j => cell_off hxG
  have HV2 := Lib.hid hV2
  have HS2 := Lib.hid hS2
  have q1 : IntKind.i64.wrap (q : Int) = (q : Int) := IntWalk.i64_in _ (by omega)
  clear hV1 hS1 hV2 hS2 cG fG g3' eG' eGb
  go_region_held3 (fun w' => w'.cell? ⟨x, 2, none⟩ = some (Value.slice (some ⟨G', 0, none⟩) gen.length capG)) (go_keep)
    (first | (go_at_call 62; refine (rNext y y0 y1 _).mono ?_; rintro e w' ⟨rfl, rfl⟩)
           | (go_at_call 61; refine (hGn _).mono ?_; rintro e w' ⟨rfl, rfl⟩))
  have hV3 : Rf (W1.setCell ⟨G', q, none⟩ (.int .i64 ((y / 4096 + 1) % 262144))).drew x n each R free (gen.set q ((y / 4096 + 1) % 262144)) (out.set q 0) := HV2.out.drewN 1
  have hS3 : RStays w n R (W1.setCell ⟨G', q, none⟩ (.int .i64 ((y / 4096 + 1) % 262144))).drew R := HS2.out.draws 1
  clear HV2 HS2 d2 cGq fGq hxG r1 hGn
  generalize (W1.setCell ⟨G', q, none⟩ (.int .i64 ((y / 4096 + 1) % 262144))).drew = W2 at hV3 hS3 ⊢
  obtain ⟨F, cap, eF, h1, h2, hf, hc⟩ := hV3.fvIs (by omega)
  have hF : R.fv.ownBlock = some F := by rw [eF]; rfl
  have c0 := hV3.c0
  have c1 := hV3.c1
  rw [eF] at c1
  have hct := hc t ht
  have hft := hf t
  have hFs := hV3.frees t ht
  have hlen : (ones (free t)).length < 1000 := by simp [ones]; omega
  obtain ⟨A, B, hv⟩ : ∃ A B, R.vs t = .slice A (ones (free t)).length B := by
    rcases hFs with ⟨e1, e2⟩ | ⟨g', off, cap', cs, e1, _⟩
    · rw [e2]; exact ⟨_, _, e1⟩
    · exact ⟨_, _, e1⟩
  obtain ⟨cF, bF⟩ := hV3.row.bk hF
  have hxF : x ≠ F := Bk.unlike hV3.ptr bF (by decide)
  have hvF : (R.vs t).ownBlock ≠ some F := fun e' => by obtain ⟨cs, hb⟩ := hFs.bk e'; exact Bk.unlike hb bF (by decide) rfl
  have hvx : (R.vs t).ownBlock ≠ some x := fun e' => by obtain ⟨cs, hb⟩ := hFs.bk e'; exact Bk.unlike hb hV3.ptr (by decide) rfl
  have hez : ¬ (each : Int) = 0 := by omega
  have hA : ∀ o, Fs (W2.drew.alloc o) (.slice A (ones (free t)).length B) (ones (free t)) := fun o => by
    have := hFs.within (S := fun _ => False) ((((Within.refl W2 _).draws 1).alloc o)) (by simp)
    rw [hv] at this
    exact this
  have hB : (W2.drew.alloc (.cells #[.int .i64 ((q : Int) + 1)] 3)).cell? ⟨W2.heap.size, 0, none⟩ = some (.int .i64 ((q : Int) + 1)) := by
    have := (Bk.made W2.drew 3 #[.int .i64 ((q : Int) + 1)]).cell 0
    exact this
  have hcp : W2.drew.cell? ⟨x, 1, none⟩ = some (.slice (some ⟨F, 0, none⟩) n cap) := c1
  rw [hv] at hct
  have HP := Lib.hid hV3.ptr
  have HBF := Lib.hid bF
  have ra : ∀ o, (W2.alloc o).cell? ⟨F, t, none⟩ = some (.slice A (ones (free t)).length B) := fun o => ((bF.alloc o).cell t).trans ((bF.cell t).symm.trans hct)
  have rb : ∀ o, (W2.alloc o).cell? ⟨x, 1, none⟩ = some (.slice (some ⟨F, 0, none⟩) n cap) := fun o => ((hV3.ptr.alloc o).cell 1).trans (congrArg some eF)
  rw [hv] at hvF hvx
  have HVF := Lib.hid hvF
  have HVX := Lib.hid hvx
  have r1 : ∀ (W : World) (u : Value) (i j : Nat), (W.setCell ⟨F, i, none⟩ u).cell? ⟨x, j, none⟩ = W.cell? ⟨x, j, none⟩ := fun W u i j => cell_off hxF
  have HV3 := Lib.hid hV3
  have HS3 := Lib.hid hS3
  have HV := Lib.hid hv
  have HFS := Lib.hid hFs
  clear hc hf hFs bF hvF hvx hV3 hS3 hv
  go_wp2
  go_region_law
    (first | (refine step_fs rfl _ _ rfl (hA _) rfl hlen ((q : Int) + 1) W2.heap.size rfl hB ?_; intro ad cap' W3 hF3 hg3 hl3; have bF3 := far hg3 HBF.out (fun e => HVF.out e.symm); have bx3 := far hg3 HP.out (fun e => HVX.out e.symm); have f1 := (bx3.cell 1).trans (congrArg some eF); have f2 := (bF3.cell t).trans ((HBF.out.cell t).symm.trans hct); have f3 := bF3.free t))
  all_goals
    have hRf : Rf (W2.drew.alloc (.cells #[.int .i64 ((q : Int) + 1)] 3)) x n each R free (gen.set q ((y / 4096 + 1) % 262144)) (out.set q 0) := (HV3.out.drewN 1).grown (grown_made _ _ none)
    rw [ones_snoc] at hF3
    rw [← HV.out] at hg3
    have hb3 : (Value.slice (some ad) ((ones (free t)).length + 1) cap').ownBlock = (R.vs t).ownBlock ∨ ∀ g, (Value.slice (some ad) ((ones (free t)).length + 1) cap').ownBlock = some g → (W2.drew.alloc (.cells #[.int .i64 ((q : Int) + 1)] 3)).heap.size ≤ g := by
      rw [← HV.out] at hl3
      rcases hl3 with e | e
      · exact .inl e
      · exact .inr fun g e' => by simp only [Value.ownBlock, Option.some.injEq] at e'; subst e'; exact e
    have hR4 := hRf.setV ht eF hg3 hF3 hb3
    have hS4 := RStays.setV (n := n) hF hg3 hb3 ht
    have hS5 : RStays w n R (W2.drew.alloc (.cells #[.int .i64 ((q : Int) + 1)] 3)) R := ⟨(HS3.out.1.draws 1).alloc _, HS3.out.2⟩
    have HR4 := Lib.hid hR4
    have HS6 := Lib.hid (hS5.then_ hS4)
    clear hRf hF3 hg3 hl3 hb3 hR4 hS4 hS5 bF3 bx3 f1 f2 f3 hA hB r1 ra rb
    go_wp2
    go_ret
    exact ⟨_, rfl, HR4.out, HS6.out⟩
end
end Go.Proofs.YtpinpipjlongaaaGreat

/- The document's own pool: New. -/
namespace Go.Proofs.YtpinpipjlongaaaGreat
set_option maxRecDepth 100000
open Go.ChangeShapes Go.WideShapes Go.ChangeAt Go.RowKit

section
variable {w w2 : World} {x n each : Nat} {fv gv ov : Value} {vs : Nat → Value} {free : Nat → List Nat} {gen out : List Int}
/-- The list of generations has become another. -/
theorem Rf.appG {gv' : Value} {gen' : List Int} (h : Rf w x n each ⟨fv, gv, ov, vs⟩ free gen out) (hg : w.grownBy w2 gv.ownBlock) (hL : Lst .i64 3 w2 gv' gen') (hloc : gv'.ownBlock = gv.ownBlock ∨ ∀ b, gv'.ownBlock = some b → w.heap.size ≤ b) :
    Rf (w2.setCell ⟨x, 2, none⟩ gv') x n each ⟨fv, gv', ov, vs⟩ free gen' out := by
  have hk1 : Within w w2 (fun i => gv.ownBlock = some i) := .of_grown hg (fun i e => .inl e)
  have hk2 : Within w2 (w2.setCell ⟨x, 2, none⟩ gv') (fun i => i = x) := (Within.refl w2 _).put x _ _ (.inl rfl)
  have hk : Within w (w2.setCell ⟨x, 2, none⟩ gv') (fun i => gv.ownBlock = some i ∨ i = x) := (hk1.wide (fun i e _ => .inl e)).then_ hk2 (fun i e => .inl (.inr e))
  have hgx : ¬ gv.ownBlock = some x := fun e => by obtain ⟨cs, hc⟩ := h.gens.bk e; exact Bk.unlike hc h.ptr (by decide) rfl
  have hp := h.ptr.within hk1 hgx
  have hnew : ∀ b, w.heap.size ≤ b → ¬ RM.Has ⟨fv, gv, ov, vs⟩ n b := fun b hb e => by have := h.lt e; omega
  refine ⟨hp.put 2 gv', h.row.within hk ?_, hL.within hk2 ?_, h.outs.within hk ?_, fun s hs => (h.frees s hs).within hk ?_, fun b e e' => ?_, fun s b hs e e' => ?_, h.vo, h.vv⟩
  · rintro b e (e' | e')
    · obtain ⟨cs, hc⟩ := h.gens.bk e'; obtain ⟨cs', hc'⟩ := h.row.bk e; exact Bk.unlike hc hc' (by decide) rfl
    · obtain ⟨cs', hc'⟩ := h.row.bk e; exact Bk.unlike hc' h.ptr (by decide) e'
  · rintro b e e'
    obtain ⟨cs, hc⟩ := hL.bk e; exact Bk.unlike hc hp (by decide) e'
  · rintro b e (e' | e')
    · exact h.go b e' e
    · obtain ⟨cs', hc'⟩ := h.outs.bk e; exact Bk.unlike hc' h.ptr (by decide) e'
  · rintro b e (e' | e')
    · exact h.vg s b hs e e'
    · obtain ⟨cs', hc'⟩ := (h.frees s hs).bk e; exact Bk.unlike hc' h.ptr (by decide) e'
  · rcases hloc with hl | hl
    · rw [hl] at e; exact h.go b e e'
    · exact hnew b (hl b e) (.inr (.inr (.inl e')))
  · rcases hloc with hl | hl
    · rw [hl] at e'; exact h.vg s b hs e e'
    · exact hnew b (hl b e') (.inr (.inr (.inr ⟨s, hs, e⟩)))
/-- The list of what is out has become another. -/
theorem Rf.appO {ov' : Value} {out' : List Int} (h : Rf w x n each ⟨fv, gv, ov, vs⟩ free gen out) (hg : w.grownBy w2 ov.ownBlock) (hL : Lst .i64 3 w2 ov' out') (hloc : ov'.ownBlock = ov.ownBlock ∨ ∀ b, ov'.ownBlock = some b → w.heap.size ≤ b) :
    Rf (w2.setCell ⟨x, 3, none⟩ ov') x n each ⟨fv, gv, ov', vs⟩ free gen out' := by
  have hk1 : Within w w2 (fun i => ov.ownBlock = some i) := .of_grown hg (fun i e => .inl e)
  have hk2 : Within w2 (w2.setCell ⟨x, 3, none⟩ ov') (fun i => i = x) := (Within.refl w2 _).put x _ _ (.inl rfl)
  have hk : Within w (w2.setCell ⟨x, 3, none⟩ ov') (fun i => ov.ownBlock = some i ∨ i = x) := (hk1.wide (fun i e _ => .inl e)).then_ hk2 (fun i e => .inl (.inr e))
  have hgx : ¬ ov.ownBlock = some x := fun e => by obtain ⟨cs, hc⟩ := h.outs.bk e; exact Bk.unlike hc h.ptr (by decide) rfl
  have hp := h.ptr.within hk1 hgx
  have hnew : ∀ b, w.heap.size ≤ b → ¬ RM.Has ⟨fv, gv, ov, vs⟩ n b := fun b hb e => by have := h.lt e; omega
  refine ⟨hp.put 3 ov', h.row.within hk ?_, h.gens.within hk ?_, hL.within hk2 ?_, fun s hs => (h.frees s hs).within hk ?_, fun b e e' => ?_, h.vg, fun s b hs e e' => ?_, h.vv⟩
  · rintro b e (e' | e')
    · obtain ⟨cs, hc⟩ := h.outs.bk e'; obtain ⟨cs', hc'⟩ := h.row.bk e; exact Bk.unlike hc hc' (by decide) rfl
    · obtain ⟨cs', hc'⟩ := h.row.bk e; exact Bk.unlike hc' h.ptr (by decide) e'
  · rintro b e (e' | e')
    · exact h.go b e e'
    · obtain ⟨cs', hc'⟩ := h.gens.bk e; exact Bk.unlike hc' h.ptr (by decide) e'
  · rintro b e e'
    obtain ⟨cs, hc⟩ := hL.bk e; exact Bk.unlike hc hp (by decide) e'
  · rintro b e (e' | e')
    · exact h.vo s b hs e e'
    · obtain ⟨cs', hc'⟩ := (h.frees s hs).bk e; exact Bk.unlike hc' h.ptr (by decide) e'
  · rcases hloc with hl | hl
    · rw [hl] at e'; exact h.go b e e'
    · exact hnew b (hl b e') (.inr (.inl e))
  · rcases hloc with hl | hl
    · rw [hl] at e'; exact h.vo s b hs e e'
    · exact hnew b (hl b e') (.inr (.inr (.inr ⟨s, hs, e⟩)))
theorem map_snoc (vs : Nat → Value) (n : Nat) (u : Value) : (List.range n).map vs ++ [u] = (List.range (n + 1)).map (upd vs n u) := by
  rw [List.range_succ, List.map_append, List.map_cons, List.map_nil, upd_same]
  congr 1
  exact List.map_congr_left fun i hi => (upd_other (by have := List.mem_range.1 hi; omega)).symm
/-- One more thread's list. -/
theorem Rf.appF {fv' lv : Value} (h : Rf w x n each ⟨fv, gv, ov, vs⟩ free gen out) (hg : w.grownBy w2 fv.ownBlock) (hV : Vls 25 w2 fv' ((List.range n).map vs ++ [lv])) (hl : Fs w lv (ones (free n))) (hln : ∀ b, lv.ownBlock = some b → ¬ RM.Has ⟨fv, gv, ov, vs⟩ n b) :
    Rf (w2.setCell ⟨x, 1, none⟩ fv') x (n + 1) each ⟨fv', gv, ov, upd vs n lv⟩ free gen out := by
  have hk1 : Within w w2 (fun i => fv.ownBlock = some i) := .of_grown hg (fun i e => .inl e)
  have hk2 : Within w2 (w2.setCell ⟨x, 1, none⟩ fv') (fun i => i = x) := (Within.refl w2 _).put x _ _ (.inl rfl)
  have hk : Within w (w2.setCell ⟨x, 1, none⟩ fv') (fun i => fv.ownBlock = some i ∨ i = x) := (hk1.wide (fun i e _ => .inl e)).then_ hk2 (fun i e => .inl (.inr e))
  have hgx : ¬ fv.ownBlock = some x := fun e => by obtain ⟨cs, hc⟩ := h.row.bk e; exact Bk.unlike hc h.ptr (by decide) rfl
  have hp := h.ptr.within hk1 hgx
  have hint : ∀ {b : Nat} {cs : Array Value}, Bk w b 3 cs → ¬ (fv.ownBlock = some b ∨ b = x) := by
    rintro b cs hc (e | e)
    · obtain ⟨cs', hc'⟩ := h.row.bk e; exact Bk.unlike hc hc' (by decide) rfl
    · exact Bk.unlike hc h.ptr (by decide) e
  rw [map_snoc] at hV
  refine ⟨hp.put 1 fv', hV.within hk2 ?_, h.gens.within hk (fun b e => by obtain ⟨cs, hc⟩ := h.gens.bk e; exact hint hc), h.outs.within hk (fun b e => by obtain ⟨cs, hc⟩ := h.outs.bk e; exact hint hc), fun s hs => ?_, h.go, fun s b hs e e' => ?_, fun s b hs e e' => ?_, fun s s' b hs hs' hne e e' => ?_⟩
  · rintro b e e'
    obtain ⟨cs, hc⟩ := hV.bk e; exact Bk.unlike hc hp (by decide) e'
  · by_cases es : s = n
    · subst es
      simp only [upd_same]
      exact hl.within hk (fun b e => by obtain ⟨cs, hc⟩ := hl.bk e; exact hint hc)
    · simp only [upd_other es]
      have hsn : s < n := by omega
      exact (h.frees s hsn).within hk (fun b e => by obtain ⟨cs, hc⟩ := (h.frees s hsn).bk e; exact hint hc)
  · by_cases es : s = n
    · subst es; simp only [upd_same] at e; exact hln b e (.inr (.inl e'))
    · simp only [upd_other es] at e; exact h.vg s b (by omega) e e'
  · by_cases es : s = n
    · subst es; simp only [upd_same] at e; exact hln b e (.inr (.inr (.inl e')))
    · simp only [upd_other es] at e; exact h.vo s b (by omega) e e'
  · by_cases es : s = n
    · subst es
      simp only [upd_same] at e
      simp only [upd_other (fun e'' : s' = s => hne e''.symm)] at e'
      exact hln b e (.inr (.inr (.inr ⟨s', by omega, e'⟩)))
    · simp only [upd_other es] at e
      by_cases es' : s' = n
      · subst es'; simp only [upd_same] at e'; exact hln b e' (.inr (.inr (.inr ⟨s, by omega, e⟩)))
      · simp only [upd_other es'] at e'; exact h.vv s s' b (by omega) (by omega) hne e e'
end

def zeros (k : Nat) : List Int := List.replicate k 0
theorem zeros_succ (k : Nat) : zeros k ++ [0] = zeros (k + 1) := by unfold zeros; rw [List.replicate_succ']
theorem zeros_len (k : Nat) : (zeros k).length = k := by simp [zeros]
/-- The first j nodes of thread t. -/
def nodes (each t j : Nat) : List Nat := (List.range j).map fun i => t * each + i
theorem nodes_succ (each t j : Nat) : ones (nodes each t j) ++ [((t * each + (j + 1) : Nat) : Int)] = ones (nodes each t (j + 1)) := by
  simp [nodes, ones, List.range_succ]; omega
theorem ones_nodes_len (each t j : Nat) : (ones (nodes each t j)).length = j := by simp [ones, nodes]

/-- While the document's pool is made: k threads have their lists, m nodes a generation, and m' are told to be out or not. -/
structure MkIn (w : World) (x each k m m' : Nat) (R : RM) (wr : World) : Prop where
  rf : Rf wr x k each R (freeNew each) (zeros m) (zeros m')
  gr : w.grownBy wr none
  new : ∀ i, R.Has k i → w.heap.size ≤ i
  newx : w.heap.size ≤ x
/-- .. and thread k's first j in a list of their own. -/
structure MkL (w : World) (x each k m m' j : Nat) (R : RM) (lv : Value) (wr : World) : Prop where
  mkin : MkIn w x each k m m' R wr
  lst : Lst .i64 3 wr lv (ones (nodes each k j))
  apart : ∀ b, lv.ownBlock = some b → w.heap.size ≤ b ∧ ¬ R.Has k b
theorem grown_own {w W1 W2 : World} {v : Value} (h : w.grownBy W1 none) (g : W1.grownBy W2 v.ownBlock) (hv : ∀ b, v.ownBlock = some b → w.heap.size ≤ b) : w.grownBy W2 none :=
  grown_then h g (by
    cases e : v.ownBlock with
    | none => exact .inl rfl
    | some b => exact .inr fun y e' => by injection e' with e'; subst e'; exact hv _ e)
section
variable {w W1 W2 : World} {x each k m m' j : Nat} {fv gv ov lv : Value} {vs : Nat → Value}
theorem MkL.l {lv1 : Value} (h : MkL w x each k m m' j ⟨fv, gv, ov, vs⟩ lv W1) (g : W1.grownBy W2 lv.ownBlock) (hL : Lst .i64 3 W2 lv1 (ones (nodes each k (j + 1)))) (loc : lv1.ownBlock = lv.ownBlock ∨ lv1.ownBlock = some (W1.heap.size + 1)) :
    MkL w x each k m m' (j + 1) ⟨fv, gv, ov, vs⟩ lv1 W2 := by
  obtain ⟨⟨hRf, hGr, hNw, hNx⟩, hLs, hAp⟩ := h
  have hsz := hGr.size
  refine ⟨⟨hRf.kept (S := fun b => lv.ownBlock = some b) (.of_grown g (fun i e => .inl e)) (fun e => ?_) (fun i hi e => (hAp i e).2 hi), grown_own hGr g (fun b e => (hAp b e).1), hNw, hNx⟩, hL, fun b e => ?_⟩
  · obtain ⟨cs, hc⟩ := hLs.bk e
    exact Bk.unlike hc hRf.ptr (by decide) rfl
  · rcases loc with e1 | e1
    · exact hAp b (e1 ▸ e)
    · rw [e1] at e; injection e with e; subst e
      exact ⟨by omega, fun e' => by have := hRf.lt e'; omega⟩
theorem MkL.g {gv2 : Value} (h : MkL w x each k m m' j ⟨fv, gv, ov, vs⟩ lv W1) (g : W1.grownBy W2 gv.ownBlock) (hL : Lst .i64 3 W2 gv2 (zeros (m + 1))) (loc : gv2.ownBlock = gv.ownBlock ∨ gv2.ownBlock = some (W1.heap.size + 1)) :
    MkL w x each k (m + 1) m' j ⟨fv, gv2, ov, vs⟩ lv (W2.setCell ⟨x, 2, none⟩ gv2) ∧ Bk W2 x 129 #[.int .i64 each, fv, gv, ov] := by
  obtain ⟨⟨hRf, hGr, hNw, hNx⟩, hLs, hAp⟩ := h
  have hsz := hGr.size
  have hloc : gv2.ownBlock = gv.ownBlock ∨ ∀ b, gv2.ownBlock = some b → W1.heap.size ≤ b := loc.imp id (fun e b e' => by rw [e] at e'; injection e' with e'; omega)
  have hk : Within W1 W2 (fun b => gv.ownBlock = some b) := .of_grown g (fun i e => .inl e)
  have hbx := hRf.ptr.within hk (fun e => by obtain ⟨cs, hc⟩ := hRf.gens.bk e; exact Bk.unlike hc hRf.ptr (by decide) rfl)
  have hkx : Within W2 (W2.setCell ⟨x, 2, none⟩ gv2) (fun i => i = x) := (Within.refl W2 _).put x _ _ (.inl rfl)
  have hgr2 := grown_own hGr g (fun b e => hNw b (.inr (.inl e)))
  refine ⟨⟨⟨hRf.appG g hL hloc, grown_then hgr2 (only_put _ _ _ _) (.inr fun y e => by injection e with e; subst e; exact hNx), fun i hi => ?_, hNx⟩, ?_, fun b e => ⟨(hAp b e).1, fun hi => ?_⟩⟩, hbx⟩
  · rcases hi with e | e | e | e
    · exact hNw i (.inl e)
    · rcases hloc with e' | e'
      · exact hNw i (.inr (.inl (e' ▸ e)))
      · have := e' i e; omega
    · exact hNw i (.inr (.inr (.inl e)))
    · exact hNw i (.inr (.inr (.inr e)))
  · have h1 := hLs.within hk (fun b e e' => (hAp b e).2 (.inr (.inl e')))
    exact h1.within hkx (fun b e e' => by obtain ⟨cs, hc⟩ := h1.bk e; exact Bk.unlike hc hbx (by decide) e')
  · rcases hi with e1 | e1 | e1 | e1
    · exact (hAp b e).2 (.inl e1)
    · rcases hloc with e' | e'
      · exact (hAp b e).2 (.inr (.inl (e' ▸ e1)))
      · have := e' b e1; have := hLs.lt e; omega
    · exact (hAp b e).2 (.inr (.inr (.inl e1)))
    · exact (hAp b e).2 (.inr (.inr (.inr e1)))
theorem MkL.o {ov2 : Value} (h : MkL w x each k m m' j ⟨fv, gv, ov, vs⟩ lv W1) (g : W1.grownBy W2 ov.ownBlock) (hL : Lst .i64 3 W2 ov2 (zeros (m' + 1))) (loc : ov2.ownBlock = ov.ownBlock ∨ ov2.ownBlock = some (W1.heap.size + 1)) :
    MkL w x each k m (m' + 1) j ⟨fv, gv, ov2, vs⟩ lv (W2.setCell ⟨x, 3, none⟩ ov2) ∧ Bk W2 x 129 #[.int .i64 each, fv, gv, ov] := by
  obtain ⟨⟨hRf, hGr, hNw, hNx⟩, hLs, hAp⟩ := h
  have hsz := hGr.size
  have hloc : ov2.ownBlock = ov.ownBlock ∨ ∀ b, ov2.ownBlock = some b → W1.heap.size ≤ b := loc.imp id (fun e b e' => by rw [e] at e'; injection e' with e'; omega)
  have hk : Within W1 W2 (fun b => ov.ownBlock = some b) := .of_grown g (fun i e => .inl e)
  have hbx := hRf.ptr.within hk (fun e => by obtain ⟨cs, hc⟩ := hRf.outs.bk e; exact Bk.unlike hc hRf.ptr (by decide) rfl)
  have hkx : Within W2 (W2.setCell ⟨x, 3, none⟩ ov2) (fun i => i = x) := (Within.refl W2 _).put x _ _ (.inl rfl)
  have hgr2 := grown_own hGr g (fun b e => hNw b (.inr (.inr (.inl e))))
  refine ⟨⟨⟨hRf.appO g hL hloc, grown_then hgr2 (only_put _ _ _ _) (.inr fun y e => by injection e with e; subst e; exact hNx), fun i hi => ?_, hNx⟩, ?_, fun b e => ⟨(hAp b e).1, fun hi => ?_⟩⟩, hbx⟩
  · rcases hi with e | e | e | e
    · exact hNw i (.inl e)
    · exact hNw i (.inr (.inl e))
    · rcases hloc with e' | e'
      · exact hNw i (.inr (.inr (.inl (e' ▸ e))))
      · have := e' i e; omega
    · exact hNw i (.inr (.inr (.inr e)))
  · have h1 := hLs.within hk (fun b e e' => (hAp b e).2 (.inr (.inr (.inl e'))))
    exact h1.within hkx (fun b e e' => by obtain ⟨cs, hc⟩ := h1.bk e; exact Bk.unlike hc hbx (by decide) e')
  · rcases hi with e1 | e1 | e1 | e1
    · exact (hAp b e).2 (.inl e1)
    · exact (hAp b e).2 (.inr (.inl e1))
    · rcases hloc with e' | e'
      · exact (hAp b e).2 (.inr (.inr (.inl (e' ▸ e1))))
      · have := e' b e1; have := hLs.lt e; omega
    · exact (hAp b e).2 (.inr (.inr (.inr e1)))
theorem MkL.f {fv2 : Value} (h : MkL w x each k m m' each ⟨fv, gv, ov, vs⟩ lv W1) (g : W1.grownBy W2 fv.ownBlock) (hV : Vls 25 W2 fv2 ((List.range k).map vs ++ [lv])) (loc : fv2.ownBlock = fv.ownBlock ∨ fv2.ownBlock = some (W1.heap.size + 1)) :
    MkIn w x each (k + 1) m m' ⟨fv2, gv, ov, upd vs k lv⟩ (W2.setCell ⟨x, 1, none⟩ fv2) ∧ Bk W2 x 129 #[.int .i64 each, fv, gv, ov] := by
  obtain ⟨⟨hRf, hGr, hNw, hNx⟩, hLs, hAp⟩ := h
  have hsz := hGr.size
  have hk : Within W1 W2 (fun b => fv.ownBlock = some b) := .of_grown g (fun i e => .inl e)
  have hbx := hRf.ptr.within hk (fun e => by obtain ⟨cs, hc⟩ := hRf.row.bk e; exact Bk.unlike hc hRf.ptr (by decide) rfl)
  have hgr2 := grown_own hGr g (fun b e => hNw b (.inl e))
  refine ⟨⟨hRf.appF g hV (Fs.of_lst hLs) (fun b e => (hAp b e).2), grown_then hgr2 (only_put _ _ _ _) (.inr fun y e => by injection e with e; subst e; exact hNx), fun i hi => ?_, hNx⟩, hbx⟩
  rcases hi with e | e | e | ⟨s, hs, e⟩
  · rcases loc with e' | e'
    · exact hNw i (.inl (e' ▸ e))
    · rw [e'] at e; injection e with e; omega
  · exact hNw i (.inr (.inl e))
  · exact hNw i (.inr (.inr (.inl e)))
  · by_cases es : s = k
    · subst es; simp only [upd_same] at e; exact (hAp i e).1
    · simp only [upd_other es] at e; exact hNw i (.inr (.inr (.inr ⟨s, by omega, e⟩)))
end
theorem slinfo : (Tryz.prog.info? 25).map (fun i => (i.zero, i.size, i.bytes)) = some (some (.slice none 0 0), 1, 24) := by kernel_rfl

set_option maxHeartbeats 1000000 in
theorem rfNew (n each : Nat) (hn1 : 1 ≤ n) (hn : n ≤ 64) (he : each ≤ 8) (w : World) :
    Calls Tryz.prog 24 #[.int .i64 n, .int .i64 each] w fun e w' => ∃ x R, e = .returned (.pointer (some ⟨x, 0, none⟩)) ∧ MkIn w x each n (n * each) (n * each) R w' := by
  have hst : MkIn w w.heap.size each 0 0 0 ⟨.slice none 0 0, .slice none 0 0, .slice none 0 0, fun _ => .slice none 0 0⟩ (w.alloc (.cells #[.int .i64 each, .slice none 0 0, .slice none 0 0, .slice none 0 0] 129)) := by
    refine ⟨⟨Bk.made _ _ _, Vls.nil _ _, Lst.nil _ _ _, Lst.nil _ _ _, fun t ht => (by omega), fun g e => (by cases e), fun t g ht => (by omega), fun t g ht => (by omega), fun s t g hs => (by omega)⟩, grown_made _ _ none, fun i hi => ?_, Nat.le_refl _⟩
    rcases hi with e | e | e | ⟨t, ht, _⟩
    · cases e
    · cases e
    · cases e
    · omega
  have HST := Lib.hid hst
  clear hst
  go_enter Tryz.func24, Tryz.ntmps24
  go_wp2
  generalize w.alloc (.cells #[.int .i64 each, .slice none 0 0, .slice none 0 0, .slice none 0 0] 129) = w0 at HST ⊢
  generalize w.heap.size = x at HST ⊢
  go_loopw [6] (fun j wr => ∃ (t : Nat) (R : RM), t ≤ n ∧ j = .int .i64 t ∧ MkIn w x each t (t * each) (t * each) R wr) (fun i _ => n - (intOf i).toNat)
  case atStart => exact ⟨0, _, Nat.zero_le _, rfl, by rw [Nat.zero_mul]; exact HST.out⟩
  case round =>
    clear HST
    obtain ⟨t, R, ht, rfl, hM⟩ := hrel
    by_cases hlt : t < n
    · have hL0 : MkL w x each t (t * each + 0) (t * each + 0) 0 R (.slice none 0 0) wr := ⟨hM, Lst.nil _ _ _, fun b e => by cases e⟩
      have HL0 := Lib.hid hL0
      clear hL0 hM
      have hb : t * each ≤ 64 * 8 := Nat.mul_le_mul (by omega) he
      have e1 : ((t * each : Nat) : Int) = (t : Int) * (each : Int) := by simp
      have t3 : wrap64 ((t : Int) * (each : Int)) = ((t * each : Nat) : Int) := by rw [← e1]; exact IntWalk.wrap64_in _ (by omega)
      generalize hTE : t * each = te at *
      have HTE := Lib.hid hTE
      clear hTE
      go_wp2
      go_loopw [7, 8] (fun l i wr' => ∃ (j : Nat) (R : RM) (lv : Value), j ≤ each ∧ i = .int .i64 ((j : Int) + 1) ∧ l = lv ∧ MkL w x each t (te + j) (te + j) j R lv wr') (fun _ i _ => each + 1 - (intOf i).toNat)
      case atStart => exact ⟨0, _, _, Nat.zero_le _, rfl, rfl, HL0.out⟩
      case round =>
        clear HL0
        obtain ⟨j, R, lv, hj, rfl, rfl, hM⟩ := hrel
        generalize u7 = lv at *
        by_cases hjk : j < each
        · have hlt1 : (ones (nodes each t j)).length < 1000000 := by rw [ones_nodes_len]; omega
          have hlz : (zeros (te + j)).length < 1000000 := by rw [zeros_len]; omega
          go_wp2_with (first | (at_builtin; refine wpLstApp rfl _ _ 25 rfl 8 Tryz.underlying25 intinfo (by omega) hM.lst rfl _ rfl hlt1 ?_))
          intro lv1 W1 hL1 g1 loc1
          rw [show (t : Int) * (each : Int) + ((j : Int) + 1) = ((t * each + (j + 1) : Nat) : Int) by simp, nodes_succ] at hL1
          obtain ⟨fv, gv, ov, vs⟩ := R
          have hM1 := hM.l g1 hL1 loc1
          clear hM hL1 g1 loc1
          have c2 : W1.cell? ⟨x, 2, none⟩ = some gv := hM1.mkin.rf.c2
          go_wp2_with (first | (at_builtin; refine wpLstApp rfl _ _ 25 rfl 8 Tryz.underlying25 intinfo (by omega) hM1.mkin.rf.gens rfl 0 rfl hlz ?_))
          intro gv2 W2 hG2 g2 loc2
          rw [zeros_succ] at hG2
          obtain ⟨hM2, hbx⟩ := hM1.g g2 hG2 loc2
          have x2 := hbx.cell 2
          have x3 := hbx.cell 3
          have z2 := hbx.free 2
          simp only [List.getElem?_toArray, List.getElem?_cons_zero, List.getElem?_cons_succ] at x2 x3
          obtain ⟨ga2, gc2, rfl, _, _, _⟩ := hG2.is
          clear hM1 hG2 g2 loc2 hbx c2
          go_upto_region 13 with fail
          clear x2 x3 z2
          generalize W2.setCell ⟨x, 2, none⟩ (.slice ga2 (zeros (te + j + 1)).length gc2) = W2' at hM2 ⊢
          have c3 : W2'.cell? ⟨x, 3, none⟩ = some ov := hM2.mkin.rf.c3
          have hlz' : (zeros (te + j)).length < 1000000 := hlz
          go_wp2_with (first | (at_builtin; refine wpLstApp rfl _ _ 25 rfl 8 Tryz.underlying25 intinfo (by omega) hM2.mkin.rf.outs rfl 0 rfl hlz' ?_))
          intro ov3 W3 hO3 g3 loc3
          rw [zeros_succ] at hO3
          obtain ⟨hM3, hbx3⟩ := hM2.o g3 hO3 loc3
          have y3 := hbx3.cell 3
          have v3 := hbx3.free 3
          simp only [List.getElem?_toArray, List.getElem?_cons_zero, List.getElem?_cons_succ] at y3
          obtain ⟨oa3, oc3, rfl, _, _, _⟩ := hO3.is
          have HM3 := Lib.hid hM3
          clear hM2 hO3 g3 loc3 hbx3 hM3 c3
          go_wp2
          go_roundw
          case rel => exact ⟨j + 1, _, lv1, by omega, by go_num, rfl, HM3.out⟩
          case measure => simp [intOf]; omega
        · obtain rfl : j = each := by omega
          obtain ⟨fv, gv, ov, vs⟩ := R
          have c1 : wr.cell? ⟨x, 1, none⟩ = some fv := hM.mkin.rf.c1
          obtain ⟨la, lc, rfl, _, _, _⟩ := hM.lst.is
          have hll : ((List.range t).map vs).length < 1000000 := by simp; omega
          go_wp2_with (first | (at_builtin; refine wpVlsApp rfl _ _ 127 rfl _ 24 Tryz.underlying127 slinfo rfl (by omega) hM.mkin.rf.row rfl _ (Fs.of_lst hM.lst).oneCell rfl hll ?_))
          intro fv2 W2 hV2 g2 loc2
          obtain ⟨hM2, hbx⟩ := hM.f g2 hV2 loc2
          have x1 := hbx.cell 1
          have z1 := hbx.free 1
          simp only [List.getElem?_toArray, List.getElem?_cons_zero, List.getElem?_cons_succ] at x1
          obtain ⟨fa2, fc2, rfl, _, _, _⟩ := hV2.is
          rw [show (List.map vs (List.range t) ++ [Value.slice la (ones (nodes j t j)).length lc]).length = t + 1 by simp] at hM2
          rw [← HTE.out, show t * j + j = (t + 1) * j by rw [Nat.add_mul, Nat.one_mul]] at hM2
          have HM2 := Lib.hid hM2
          clear hM hV2 g2 loc2 hbx c1 hM2
          go_wp2
          go_roundw
          case rel => exact ⟨t + 1, _, by omega, by go_num, HM2.out⟩
          case measure => simp [intOf]; omega
    · obtain rfl : t = n := by omega
      go_wp2
      go_ret
      exact ⟨x, R, rfl, hM⟩
end Go.Proofs.YtpinpipjlongaaaGreat

/- The pool and the document's pool side by side, and a list of the handles that were had: what one call leaves of the others. -/
namespace Go.Proofs.YtpinpipjlongaaaGreat
set_option maxRecDepth 100000
open Go.ChangeShapes Go.WideShapes Go.ChangeAt Go.RowKit

section
variable {w wr w2 : World} {p x n each each' c : Nat} {M M2 : PM} {R R2 : RM} {free : Nat → List Nat} {gen out : List Int} {fr : Nat → List Int} {os : Int → Bool} {hv : Value} {had : List Int}
theorem Rf.bk (h : Rf w x n each R free gen out) {i : Nat} (k : R.Has n i) : ∃ t cs, Bk w i t cs ∧ (t = 25 ∨ t = 3) := by
  rcases k with e | e | e | ⟨s, hs, e⟩
  · obtain ⟨cs, hc⟩ := h.row.bk e; exact ⟨_, cs, hc, .inl rfl⟩
  · obtain ⟨cs, hc⟩ := h.gens.bk e; exact ⟨_, cs, hc, .inr rfl⟩
  · obtain ⟨cs, hc⟩ := h.outs.bk e; exact ⟨_, cs, hc, .inr rfl⟩
  · obtain ⟨cs, hc⟩ := (h.frees s hs).bk e; exact ⟨_, cs, hc, .inr rfl⟩
/-- Cells of another type aren't the document's pool's. -/
theorem Rf.not_has (h : Rf w x n each R free gen out) {q : Nat} {t : TypeId} {cs : Array Value} (k : Bk w q t cs) (h1 : t ≠ 25) (h2 : t ≠ 3) : ¬ R.Has n q := fun e => by
  obtain ⟨t', cs', hc, ht⟩ := h.bk e
  have : t = t' := by unfold Bk at k hc; rw [k] at hc; injection hc with hc; injection hc
  subst this
  rcases ht with e | e
  · exact h1 e
  · exact h2 e
theorem Pl.off (hp : Pl w p n each M fr os c) (hr : Rf w x n each' R free gen out) {i : Nat} (k : M.Has n i) : ¬ R.Has n i := fun e => by
  obtain ⟨t, cs, hc, ht⟩ := hr.bk e
  rcases ht with rfl | rfl
  · exact hp.not_has hc (by decide) (by decide) k
  · exact hp.not_has hc (by decide) (by decide) k
end
end Go.Proofs.YtpinpipjlongaaaGreat
