/- The document's own pool: Back. -/
import Derived.Test.YteeaminfhpcdmaaPoolRefC
import Derived.Test.YteeaminfhpcdmaaInts
import Derived.Deep.RegionLawGrows
import Derived.Deep.RegionHeld3
import Derived.Deep.Onto
import Derived.Lib.SmallJoins
namespace Go.Proofs.Yteeaminfhpcdmaa
open Go.ChangeShapes Go.WideShapes Go.ChangeAt Go.RowKit

theorem setCells_one (w : World) (g o : Nat) (u : Value) : w.setCells g o [u] = w.setCell ⟨g, o, none⟩ u := rfl

/-- append of one int to a slice that lies anywhere, as a step of a region that draws its order. -/
theorem step_fs {ops : Array Oper} {o : Oper} {a : Act} {w : World} {K : Act → World → Prop} {Q : Exit → Act → World → Prop} {E : Prop} (hgd : o.guard = none) (s x : Operand)
    (ho : o.op = Op.call { callee := Callee.builtin Builtin.append, args := #[s, x], argTypes := #[44, 44] }) {v : Value} {xs : List Int} (hF : Fs w v xs) (hs : a.eval s = v) (hl : xs.length < 1000) (y : Int) (B : Nat)
    (hx : a.eval x = .slice (some ⟨B, 0, none⟩) 1 1) (hB : w.cell? ⟨B, 0, none⟩ = some (.int .i64 y))
    (hK : ∀ ad cap' w', Fs w' (.slice (some ad) (xs.length + 1) cap') (xs ++ [y]) → w.grownBy w' v.ownBlock → (some ad.block = v.ownBlock ∨ w.heap.size ≤ ad.block) → K (a.put o.dst (.slice (some ad) (xs.length + 1) cap')) w') :
    if Region.wanted o (yielded ops a.tmps) = true then Oper.wp Try.prog o a w K Q else E := by
  obtain ⟨i0, hi0, hz0, hz1, hz2⟩ := info_parts intinfo
  have hnews : ∀ j u, [Value.int .i64 y][j]? = some u → w.cell? ((⟨B, 0, none⟩ : Addr).add j) = some u := by
    intro j u hj
    match j, hj with
    | 0, hj => simp at hj; subst hj; exact hB
    | j + 1, hj => simp at hj
  have hone : ∀ u ∈ [Value.int .i64 y], u.oneCell' = true := ints_oneCell .i64 [y]
  have hgrown : ∀ v' w', w'.ownsRow w.heap.size 3 1 v' (xs.length + 1) (xs.map (Value.int .i64) ++ [.int .i64 y]) → w.grownBy w' none → K (a.put o.dst v') w' := by
    intro v' w' hown hg
    obtain ⟨g, cap', rfl⟩ := Joins.ownsRow_form hown (by omega)
    have hL : Lst .i64 3 w' (.slice (some ⟨g, 0, none⟩) (xs.length + 1) cap') (xs ++ [y]) := by
      unfold Lst
      have := hown.mono (Nat.zero_le _)
      simpa using this
    exact hK _ _ _ (Fs.of_lst hL) (grown_any hg) (.inr (World.ownsRow.lt hown g rfl).1)
  rcases hF with ⟨rfl, rfl⟩ | ⟨g, off, cap, cs, rfl, h1, h2, hb, h3, h4⟩
  · exact step_append_grows hgd s x 44 ho 3 i0 _ 1 8 Try.underlying44 hi0 hz0 hz1 hz2 rfl (by omega) none 0 0 [] hs (fun _ => ⟨rfl, rfl⟩) rfl (fun _ e => by cases e) ⟨B, 0, none⟩ 1 1 [.int .i64 y] hx rfl hnews hone (by omega) (by simp only [maxLen]; omega) (by omega) hgrown
  · by_cases hr : xs.length + 1 ≤ cap
    · refine step_append_room hgd s x 44 ho 3 i0 1 Try.underlying44 hi0 hz1 g off xs.length cap hs ⟨B, 0, none⟩ 1 1 [.int .i64 y] hx rfl hnews hone hr (fun j hj => ?_) ?_
      · simp at hj
        subst hj
        refine ⟨?_, hb.free _⟩
        rw [hb.cell, Nat.add_zero, Nat.mul_one]
        simp; omega
      · rw [setCells_one, Nat.mul_one]
        exact hK _ _ _ (Fs.more (.inr ⟨g, off, cap, cs, rfl, h1, h2, hb, h3, h4⟩) hr) (only_put _ _ _ _) (.inl rfl)
    · refine step_append_grows hgd s x 44 ho 3 i0 _ 1 8 Try.underlying44 hi0 hz0 hz1 hz2 rfl (by omega) (some ⟨g, off, none⟩) xs.length cap (xs.map (Value.int .i64)) hs (fun e => by cases e) (by simp) (fun b e j u hj => ?_) ⟨B, 0, none⟩ 1 1 [.int .i64 y] hx rfl hnews hone (by omega) (by simp only [maxLen]; omega) (by omega) hgrown
      injection e with e
      subst e
      have hj' : j < xs.length := by have := (List.getElem?_eq_some_iff.1 hj).1; simpa using this
      rw [List.getElem?_map, nth_get hj'] at hj
      have ea : (⟨g, off, none⟩ : Addr).add j = ⟨g, off + j, none⟩ := by unfold Addr.add; split <;> simp_all
      rw [ea, hb.cell, h4 j hj', ← hj]; rfl

section
variable {w w' : World} {x n each N : Nat} {R : RM} {free : Nat → List Nat} {gen out : List Int}
theorem rfBack0 : Calls Try.prog 13 #[.pointer (some ⟨x, 0, none⟩), .int .u32 0] w fun e w' => e = .returned (.int .i64 0) ∧ w = w' := by
  go_enter Try.func13, Try.ntmps13
  go_wp2
  go_ret
  exact ⟨rfl, rfl⟩

theorem rfBackNo (h : Rf w x n each R free gen out) (hlG : gen.length = N) (hlO : out.length = N) (hN : N ≤ 512) (hg : ∀ q, 0 ≤ nth gen q ∧ nth gen q < 262144) (ho : ∀ q, nth out q = 0 ∨ nth out q = 1) (y : Int) (y0 : 0 ≤ y) (y1 : y < 4294967296) (hy : isO N gen out y = false) (hz : y ≠ 0) :
    Calls Try.prog 13 #[.pointer (some ⟨x, 0, none⟩), .int .u32 y] w fun e w' => e = .returned (.int .i64 10) ∧ w = w' := by
  have hI := rfIs h hlG hlO hN hg ho y y0 y1
  rw [hy] at hI
  clear hg ho hy
  go_enter Try.func13, Try.ntmps13
  go_wp2_with fail
  refine hI.mono ?_
  rintro e w' ⟨rfl, rfl⟩
  go_wp2
  go_ret
  exact ⟨rfl, rfl⟩

/-- Behind the document's Back. -/
def RBacked (w : World) (x n each : Nat) (R : RM) (free : Nat → List Nat) (gen out : List Int) (t q : Nat) (y : Int) (e : Ending) (w' : World) : Prop :=
  ∃ R', e = .returned (.int .i64 0) ∧ Rf w' x n each R' (upd free t (free t ++ [q])) (gen.set q ((y / 4096 + 1) % 262144)) (out.set q 0) ∧ RStays w n R w' R'

theorem far {W W3 : World} {o : Obj} {r : Option Nat} {b : Nat} {t : TypeId} {cs : Array Value} (h : (W.drew.alloc o).grownBy W3 r) (hb : Bk W b t cs) (hne : some b ≠ r) : Bk W3 b t cs := Bk.grown (Bk.alloc (w := W.drew) hb o) h hne
theorem ones_snoc (l : List Nat) (q : Nat) : ones l ++ [(q : Int) + 1] = ones (l ++ [q]) := by simp [ones]

set_option maxHeartbeats 1000000 in
theorem rfBack (h : Rf w x n each R free gen out) (h64 : n ≤ 64) (h8 : each ≤ 8) (hlG : gen.length = N) (hlO : out.length = N) (hN : N ≤ 512) (hg : ∀ q, 0 ≤ nth gen q ∧ nth gen q < 262144) (ho : ∀ q, nth out q = 0 ∨ nth out q = 1) (y : Int) (y0 : 0 ≤ y) (y1 : y < 4294967296) (hy : isO N gen out y = true)
    {t i : Nat} (ht : t < n) (hi : i < each) (hq : t * each + i < N) (he : y % 4096 = ((t * each + i + 1 : Nat) : Int)) (hlf : (free t).length ≤ 8) :
    Calls Try.prog 13 #[.pointer (some ⟨x, 0, none⟩), .int .u32 y] w (RBacked w x n each R free gen out t (t * each + i) y) := by
  have hz : y ≠ 0 := by omega
  have hI := rfIs h hlG hlO hN hg ho y y0 y1
  rw [hy] at hI
  have hquo : (((t * each + i : Nat) : Int)).tdiv (each : Int) = (t : Int) := by
    rw [← Int.ofNat_tdiv, Nat.mul_comm, Nat.mul_add_div (by omega), Nat.div_eq_of_lt hi, Nat.add_zero]
  have hX : ∀ W, Calls Try.prog 16 #[.int .u32 y] W fun e w' => e = .returned (.int .i64 (((t * each + i : Nat) : Int) + 1)) ∧ W = w' := fun W => by
    have := rIndex y y0 y1 W
    rw [show y % 4096 = ((t * each + i : Nat) : Int) + 1 by omega] at this
    exact this
  have hGn : ∀ W, Calls Try.prog 21 #[.int .u32 ((y / 4096 + 1) % 262144 * 4096 + y % 4096)] W fun e w' => e = .returned (.int .i64 ((y / 4096 + 1) % 262144)) ∧ W = w' := fun W => by
    have := rGen ((y / 4096 + 1) % 262144 * 4096 + y % 4096) (by omega) (by omega) W
    rw [show ((y / 4096 + 1) % 262144 * 4096 + y % 4096) / 4096 % 262144 = (y / 4096 + 1) % 262144 by omega] at this
    exact this
  generalize hQ : t * each + i = q at *
  obtain ⟨aO, capO, eO, o1, o2, o3⟩ := h.ovIs
  obtain ⟨O, rfl, hO, fO, cO⟩ := o3 (by omega)
  obtain ⟨aG, capG, eG, g1, g2, g3⟩ := h.gvIs
  obtain ⟨G, rfl, hG, fG, cG⟩ := g3 (by omega)
  have c3 := h.c3
  rw [eO] at c3
  have hcq := cO q (by omega)
  have hfq := fO q
  have b1 : (q : Int) < out.length := by omega
  have b2 : (q : Int) < gen.length := by omega
  have hV1 := h.setO eO q 0
  have hS1 : RStays w n R (w.setCell ⟨O, q, none⟩ (.int .i64 0)) R := RStays.put (.inr (.inr (.inl hO)))
  have HE := Lib.hid he
  have HQ := Lib.hid hQ
  clear o3 g3 fO cO fG cG hg ho hy he hQ
  go_enter Try.func13, Try.ntmps13
  go_wp2_with fail
  refine hI.mono ?_
  clear hI
  rintro e w' ⟨rfl, rfl⟩
  go_wp2_with fail
  refine (hX _).mono ?_
  clear hX
  rintro e w' ⟨rfl, rfl⟩
  go_wp2
  clear c3 hcq hfq h
  generalize w.setCell ⟨O, q, none⟩ (.int .i64 0) = W1 at hV1 hS1 ⊢
  have d2 := hV1.c2
  rw [eG] at d2
  obtain ⟨aG', capG', eG', _, _, g3'⟩ := hV1.gvIs
  rw [eG] at eG' g3'
  obtain ⟨G', eGG, eGb, fG, cG⟩ := g3' (by omega)
  have eGG' : G' = G := by simp only [Value.ownBlock, Option.some.injEq] at eGb; exact eGb.symm
  subst eGG'
  have cGq := cG q (by omega)
  have fGq := fG q
  have hV2 := hV1.setG eG q ((y / 4096 + 1) % 262144)
  have hS2 := hS1.then_ (RStays.put (w := W1) (n := n) (R := R) (g := G') (i := q) (u := .int .i64 ((y / 4096 + 1) % 262144)) (.inr (.inl hG)))
  have hxG : x ≠ G' := by
    obtain ⟨c1', b1'⟩ := hV1.gens.bk hG
    exact Bk.unlike hV1.ptr b1' (by decide)
  have r1 : ∀ (W : World) (u : Value) (i j : Nat), (W.setCell ⟨G', i, none⟩ u).cell? ⟨x, j, none⟩ = W.cell? ⟨x, j, none⟩ := fun W u i j => cell_off hxG
  have HV2 := Lib.hid hV2
  have HS2 := Lib.hid hS2
  have q1 : IntKind.i64.wrap (q : Int) = (q : Int) := IntWalk.i64_in _ (by omega)
  clear hV1 hS1 hV2 hS2 cG fG g3' eG' eGb
  go_region_held3 (fun w' => w'.cell? ⟨x, 2, none⟩ = some (Value.slice (some ⟨G', 0, none⟩) gen.length capG)) (go_keep)
    (first | (go_at_call 26; refine (rNext y y0 y1 _).mono ?_; rintro e w' ⟨rfl, rfl⟩)
           | (go_at_call 21; refine (hGn _).mono ?_; rintro e w' ⟨rfl, rfl⟩))
  have hV3 : Rf (W1.setCell ⟨G', q, none⟩ (.int .i64 ((y / 4096 + 1) % 262144))).drew x n each R free (gen.set q ((y / 4096 + 1) % 262144)) (out.set q 0) := HV2.out.drewN 1
  have hS3 : RStays w n R (W1.setCell ⟨G', q, none⟩ (.int .i64 ((y / 4096 + 1) % 262144))).drew R := HS2.out.draws 1
  clear HV2 HS2 d2 cGq fGq hxG r1 hGn
  generalize (W1.setCell ⟨G', q, none⟩ (.int .i64 ((y / 4096 + 1) % 262144))).drew = W2 at hV3 hS3 ⊢
  obtain ⟨F, cap, eF, h1, h2, hf, hc⟩ := hV3.fvIs (by omega)
  have hF : R.fv.ownBlock = some F := by rw [eF]; rfl
  have c0 := hV3.c0
  have c1 := hV3.c1
  rw [eF] at c1
  have hct := hc t ht
  have hft := hf t
  have hFs := hV3.frees t ht
  have hlen : (ones (free t)).length < 1000 := by simp [ones]; omega
  obtain ⟨A, B, hv⟩ : ∃ A B, R.vs t = .slice A (ones (free t)).length B := by
    rcases hFs with ⟨e1, e2⟩ | ⟨g', off, cap', cs, e1, _⟩
    · rw [e2]; exact ⟨_, _, e1⟩
    · exact ⟨_, _, e1⟩
  obtain ⟨cF, bF⟩ := hV3.row.bk hF
  have hxF : x ≠ F := Bk.unlike hV3.ptr bF (by decide)
  have hvF : (R.vs t).ownBlock ≠ some F := fun e' => by obtain ⟨cs, hb⟩ := hFs.bk e'; exact Bk.unlike hb bF (by decide) rfl
  have hvx : (R.vs t).ownBlock ≠ some x := fun e' => by obtain ⟨cs, hb⟩ := hFs.bk e'; exact Bk.unlike hb hV3.ptr (by decide) rfl
  have hez : ¬ (each : Int) = 0 := by omega
  have hA : ∀ o, Fs (W2.drew.alloc o) (.slice A (ones (free t)).length B) (ones (free t)) := fun o => by
    have := hFs.within (S := fun _ => False) ((((Within.refl W2 _).draws 1).alloc o)) (by simp)
    rw [hv] at this
    exact this
  have hB : (W2.drew.alloc (.cells #[.int .i64 ((q : Int) + 1)] 3)).cell? ⟨W2.heap.size, 0, none⟩ = some (.int .i64 ((q : Int) + 1)) := by
    have := (Bk.made W2.drew 3 #[.int .i64 ((q : Int) + 1)]).cell 0
    exact this
  have hcp : W2.drew.cell? ⟨x, 1, none⟩ = some (.slice (some ⟨F, 0, none⟩) n cap) := c1
  rw [hv] at hct
  have HP := Lib.hid hV3.ptr
  have HBF := Lib.hid bF
  have ra : ∀ o, (W2.alloc o).cell? ⟨F, t, none⟩ = some (.slice A (ones (free t)).length B) := fun o => ((bF.alloc o).cell t).trans ((bF.cell t).symm.trans hct)
  have rb : ∀ o, (W2.alloc o).cell? ⟨x, 1, none⟩ = some (.slice (some ⟨F, 0, none⟩) n cap) := fun o => ((hV3.ptr.alloc o).cell 1).trans (congrArg some eF)
  rw [hv] at hvF hvx
  have HVF := Lib.hid hvF
  have HVX := Lib.hid hvx
  have r1 : ∀ (W : World) (u : Value) (i j : Nat), (W.setCell ⟨F, i, none⟩ u).cell? ⟨x, j, none⟩ = W.cell? ⟨x, j, none⟩ := fun W u i j => cell_off hxF
  have HV3 := Lib.hid hV3
  have HS3 := Lib.hid hS3
  have HV := Lib.hid hv
  have HFS := Lib.hid hFs
  clear hc hf hFs bF hvF hvx hV3 hS3 hv
  go_wp2
  go_region_law
    (first | (refine step_fs rfl _ _ rfl (hA _) rfl hlen ((q : Int) + 1) W2.heap.size rfl hB ?_; intro ad cap' W3 hF3 hg3 hl3; have bF3 := far hg3 HBF.out (fun e => HVF.out e.symm); have bx3 := far hg3 HP.out (fun e => HVX.out e.symm); have f1 := (bx3.cell 1).trans (congrArg some eF); have f2 := (bF3.cell t).trans ((HBF.out.cell t).symm.trans hct); have f3 := bF3.free t))
  all_goals
    have hRf : Rf (W2.drew.alloc (.cells #[.int .i64 ((q : Int) + 1)] 3)) x n each R free (gen.set q ((y / 4096 + 1) % 262144)) (out.set q 0) := (HV3.out.drewN 1).grown (grown_made _ _ none)
    rw [ones_snoc] at hF3
    rw [← HV.out] at hg3
    have hb3 : (Value.slice (some ad) ((ones (free t)).length + 1) cap').ownBlock = (R.vs t).ownBlock ∨ ∀ g, (Value.slice (some ad) ((ones (free t)).length + 1) cap').ownBlock = some g → (W2.drew.alloc (.cells #[.int .i64 ((q : Int) + 1)] 3)).heap.size ≤ g := by
      rw [← HV.out] at hl3
      rcases hl3 with e | e
      · exact .inl e
      · exact .inr fun g e' => by simp only [Value.ownBlock, Option.some.injEq] at e'; subst e'; exact e
    have hR4 := hRf.setV ht eF hg3 hF3 hb3
    have hS4 := RStays.setV (n := n) hF hg3 hb3 ht
    have hS5 : RStays w n R (W2.drew.alloc (.cells #[.int .i64 ((q : Int) + 1)] 3)) R := ⟨(HS3.out.1.draws 1).alloc _, HS3.out.2⟩
    have HR4 := Lib.hid hR4
    have HS6 := Lib.hid (hS5.then_ hS4)
    clear hRf hF3 hg3 hl3 hb3 hR4 hS4 hS5 bF3 bx3 f1 f2 f3 hA hB r1 ra rb
    go_wp2
    go_ret
    exact ⟨_, rfl, HR4.out, HS6.out⟩
end
end Go.Proofs.Yteeaminfhpcdmaa
