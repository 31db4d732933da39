/- slices.Clone of instructions, asm.Copy. -/
import Derived.Test.YtpinpipjlongaaaSame
import Derived.Deep.Onto
import Derived.Deep.CutBlock
import Derived.Laws.Cover3
namespace Go.Proofs.Ytpinpipjlongaaa
open Go.ChangeShapes Go.WideShapes Go.ChangeAt Go.RowKit
set_option linter.unusedVariables false

theorem progC_one (l : List Ins) : ∀ u ∈ progC l, u.oneCell' = true := by
  intro u hu
  unfold progC at hu
  rw [List.mem_flatMap] at hu
  obtain ⟨i, _, hi⟩ := hu
  exact insC_one i u hi
theorem sli_news {w : World} {b off : Nat} {l : List Ins} (h : ∀ k i, l[k]? = some i → ∀ j, j < 8 → w.cell? ⟨b, off + k * 8 + j, none⟩ = (insC i)[j]?) : ∀ (j : Nat) (u : Value), (progC l)[j]? = some u → w.cell? ((⟨b, off, none⟩ : Addr).add j) = some u := by
  intro j u hj
  have ea : (⟨b, off, none⟩ : Addr).add j = ⟨b, off + j, none⟩ := by unfold Addr.add; split <;> simp_all
  have hjl := (List.getElem?_eq_some_iff.1 hj).1
  rw [progC_len] at hjl
  have hk : j / 8 < l.length := by omega
  have hm : j / 8 * 8 + j % 8 = j := by omega
  have h1 := h (j / 8) l[j / 8] (List.getElem?_eq_getElem hk) (j % 8) (by omega)
  rw [← progC_at (List.getElem?_eq_getElem hk) (by omega : j % 8 < 8), hm, hj, Nat.add_assoc, hm] at h1
  rw [ea]
  exact h1

/-- What Clone leaves. -/
def Cloned (w : World) (l : List Ins) (e : Ending) (w' : World) : Prop := ∃ v', e = .returned v' ∧ w'.ownsRow w.heap.size 55 8 v' l.length (progC l) ∧ Below w.heap.size w w'
theorem run_nilEq (a : Option Addr) (n c : Nat) (w : World) : (binOp .eql 22 (.slice a n c) (.slice none 0 0)).run Try.prog w = .ok (.bool a.isNone) w := by
  simp [binOp, run_equal_slice_nil w 22 55 a n c Try.underlying22, Result.andThen]
set_option maxHeartbeats 1000000 in
theorem lClone (l : List Ins) (a : Option Addr) (ca : Nat) (w : World) (hn : a = none → ca = 0) (ha : Sli w a l) (hl : l.length ≤ 1000) :
    Calls Try.prog 36 #[.slice a l.length ca] w (Cloned w l) := by
  have hq := run_nilEq a l.length ca
  cases a with
  | none =>
    have h0 : l = [] := by
      cases l with
      | nil => rfl
      | cons i l => obtain ⟨b, off, e, _⟩ := ha (by simp); cases e
    subst h0
    obtain rfl := hn rfl
    clear ha
    replace hq : ∀ w, (binOp .eql 22 (.slice none 0 0) (.slice none 0 0)).run Try.prog w = .ok (.bool true) w := hq
    go_enter Try.func36, Try.ntmps36
    go_wp2
    go_ret
    exact ⟨_, rfl, World.ownsRow_nil _ _ _ _, Below.refl _ _⟩
  | some ad =>
    replace hq : ∀ w, (binOp .eql 22 (.slice (some ad) l.length ca) (.slice none 0 0)).run Try.prog w = .ok (.bool false) w := hq
    go_enter Try.func36, Try.ntmps36
    have hB : Hid (Bk (w.alloc (.cells #[] 55)) w.heap.size 55 #[]) := Lib.hid (Bk.made w _ _)
    have HO : Hid ((w.alloc (.cells #[] 55)).ownsRow w.heap.size 55 8 (.slice (some ⟨w.heap.size, 0, none⟩) 0 0) 0 []) := Lib.hid ⟨rfl, .inr ⟨w.heap.size, 0, #[], rfl, Nat.le_refl _, hB.out, Nat.le_refl _, by simp, rfl, rfl⟩⟩
    have HN : Hid (∀ (j : Nat) (u : Value), (progC l)[j]? = some u → (w.alloc (.cells #[] 55)).cell? (ad.add j) = some u) := Lib.hid fun j u hj => by
      have hjl := (List.getElem?_eq_some_iff.1 hj).1
      rw [progC_len] at hjl
      obtain ⟨b, off, e, hlt, hc⟩ := ha (by omega)
      injection e with e
      subst e
      exact sli_news (w := w.alloc _) (fun k i hk j hj => (World.cell?_of_block (Below.heap_alloc w _ b hlt)).trans (hc k i hk j hj)) j u hj
    obtain ⟨i0, hi0, hz0, hz1, hz2⟩ := info_parts insInfo
    have HI := Lib.hid (And.intro hi0 (And.intro hz0 (And.intro hz1 hz2)))
    clear hi0 hz0 hz1 hz2 ha hB
    go_wp2_with (at_builtin; refine wpList_append_own_at _ rfl _ _ 22 rfl w.heap.size 55 i0 _ 8 64 Try.underlying22 HI.out.1 HI.out.2.1 HI.out.2.2.1 HI.out.2.2.2 rfl (by omega) _ 0 [] rfl HO.out ad l.length ca (progC l) rfl (by rw [progC_len]) HN.out (progC_one l) (by simp only [maxLen]; omega) (by omega) (by simp) ?_; intro v' w' hown hgr _ hloc)
    go_ret
    refine ⟨v', rfl, by simpa using hown, ?_⟩
    exact Below.grown ((Below.refl _ _).alloc (Nat.le_refl _) _) hgr (by simp) (fun j hj => by cases hj; exact Nat.le_refl _)

set_option maxHeartbeats 1000000 in
theorem cCopy (c : Prg) (v : Value) (w : World) (hv : Pv w v c) (hl : c.l.length ≤ 1000) :
    Calls Try.prog 19 #[v] w fun e w' => ∃ v', e = .returned v' ∧ Pg w' w.heap.size v' c ∧ Below w.heap.size w w' := by
  obtain ⟨a, ca, rfl, hc1, hc2, hn, ha⟩ := hv
  obtain ⟨l, lo, un⟩ := c
  simp only at hl hc1 ha ⊢
  obtain ⟨b0, k1, k2⟩ := two_boxes w 24 #[.slice a l.length ca, .int .i64 lo, .int .i64 un] #[.slice none 0 0, .int .i64 0, .int .i64 0]
  go_enter Try.func19, Try.ntmps19
  go_upto_region 1 with fail
  generalize (w.alloc (.cells #[.slice a l.length ca, .int .i64 lo, .int .i64 un] 24)).alloc (.cells #[.slice none 0 0, .int .i64 0, .int .i64 0] 24) = x at *
  have x0 : x.cell? ⟨w.heap.size, 0, none⟩ = some (.slice a l.length ca) := k1.cell 0
  have HC := Lib.hid (lClone l a ca x hn (ha.below b0) hl)
  go_wp2_with fail
  refine HC.out.mono ?_
  rintro e y ⟨v', rfl, hown, hy⟩
  replace k1 : Bk y _ _ _ := (hy.block _ k1.lt).trans k1
  replace k2 : Bk y _ _ _ := (hy.block _ k2.lt).trans k2
  have hxs := b0.size
  replace b0 := b0.trans (hy.mono b0.size)
  obtain ⟨a2, cap2, rfl, hcap2, hmax2, _⟩ := own_is hown
  clear x0 HC
  have x0 : y.cell? ⟨w.heap.size, 0, none⟩ = some (.slice a l.length ca) := k1.cell 0
  have xf := k1.free 0
  go_upto_region 2 with fail
  have hne : ∀ g, (Value.slice a2 l.length cap2).ownBlock = some g → g ≠ w.heap.size ∧ g ≠ w.heap.size + 1 := fun g hg => by
    obtain ⟨cs, hcs⟩ := own_bk hown hg
    exact ⟨fun e => Bk.unlike hcs k1 (by decide) e, fun e => Bk.unlike hcs k2 (by decide) e⟩
  have o1 := own_within hown ((Within.refl y (fun b => b = w.heap.size)).put w.heap.size 0 (.slice a2 l.length cap2) (.inl rfl)) (fun g hg e => (hne g hg).1 e)
  replace k2 := k2.off (p := ⟨w.heap.size, 0, none⟩) (by show w.heap.size + 1 ≠ w.heap.size; omega) (.slice a2 l.length cap2)
  replace k1 : Bk (y.setCell ⟨w.heap.size, 0, none⟩ (.slice a2 l.length cap2)) w.heap.size 24 #[.slice a2 l.length cap2, .int .i64 lo, .int .i64 un] := k1.put 0 _
  replace b0 := b0.setCell (p := ⟨w.heap.size, 0, none⟩) (Nat.le_refl _) (.slice a2 l.length cap2)
  clear hown x0 xf
  generalize y.setCell ⟨w.heap.size, 0, none⟩ (.slice a2 l.length cap2) = y at *
  obtain ⟨x0, x1, x2⟩ : y.cell? ⟨w.heap.size, 0, none⟩ = some (.slice a2 l.length cap2) ∧ y.cell? ⟨w.heap.size, 1, none⟩ = some (.int .i64 lo) ∧ y.cell? ⟨w.heap.size, 2, none⟩ = some (.int .i64 un) := ⟨k1.cell 0, k1.cell 1, k1.cell 2⟩
  obtain ⟨z0, z1, z2⟩ : y.cell? ⟨w.heap.size + 1, 0, none⟩ = some (.slice none 0 0) ∧ y.cell? ⟨w.heap.size + 1, 1, none⟩ = some (.int .i64 0) ∧ y.cell? ⟨w.heap.size + 1, 2, none⟩ = some (.int .i64 0) := ⟨k2.cell 0, k2.cell 1, k2.cell 2⟩
  have zf := k2.free
  go_wp2
  have h9 := put3_bk k2 (.slice a2 l.length cap2) (.int .i64 lo) (.int .i64 un)
  have b9 := put3_below b0 (by show w.heap.size ≤ w.heap.size + 1; omega) (.slice a2 l.length cap2) (.int .i64 lo) (.int .i64 un)
  have o9 : (put3 y (w.heap.size + 1) (.slice a2 l.length cap2) (.int .i64 lo) (.int .i64 un)).ownsRow x.heap.size 55 8 (.slice a2 l.length cap2) l.length (progC l) := own_within o1 ((((Within.refl y (fun b => b = w.heap.size + 1)).put (w.heap.size + 1) 0 (.slice a2 l.length cap2) (.inl rfl)).put (w.heap.size + 1) 1 (.int .i64 lo) (.inl rfl)).put (w.heap.size + 1) 2 (.int .i64 un) (.inl rfl)) (fun b e e2 => (hne b e).2 e2)
  replace o9 := World.ownsRow.mono (base' := w.heap.size) o9 hxs
  generalize hv9 : (((y.setCell ⟨w.heap.size + 1, 0, none⟩ (.slice a2 l.length cap2)).setCell ⟨w.heap.size + 1, 1, none⟩ (.int .i64 lo)).setCell ⟨w.heap.size + 1, 2, none⟩ (.int .i64 un)) = v9
  replace hv9 : put3 y (w.heap.size + 1) (.slice a2 l.length cap2) (.int .i64 lo) (.int .i64 un) = v9 := hv9
  rw [hv9] at h9 b9 o9
  obtain ⟨q0, q1, q2⟩ : v9.cell? ⟨w.heap.size + 1, 0, none⟩ = some (.slice a2 l.length cap2) ∧ v9.cell? ⟨w.heap.size + 1, 1, none⟩ = some (.int .i64 lo) ∧ v9.cell? ⟨w.heap.size + 1, 2, none⟩ = some (.int .i64 un) := ⟨h9.cell 0, h9.cell 1, h9.cell 2⟩
  refine bodyPost_ret (v := .agg #[.slice a2 l.length cap2, .int .i64 lo, .int .i64 un]) (by simp [results, Try.results19, go_sem, q0, q1, q2]) rfl ⟨.agg #[.slice a2 l.length cap2, .int .i64 lo, .int .i64 un], rfl, ⟨_, rfl, o9⟩, b9⟩
end Go.Proofs.Ytpinpipjlongaaa
