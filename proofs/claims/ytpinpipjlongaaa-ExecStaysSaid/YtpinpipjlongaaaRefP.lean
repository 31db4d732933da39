/- The law's Ref: the document's program. -/
import Derived.Test.YtpinpipjlongaaaPrg
import Derived.Deep.RegionHeld3
import Derived.Deep.Cut
import Derived.Test.YtpinpipjlongaaaGrow
namespace Go.Proofs.Ytpinpipjlongaaa
open Go.ChangeShapes Go.WideShapes Go.ChangeAt Go.RowKit
set_option linter.unusedVariables false

theorem refInfo : (Try.prog.info? 87).map (fun i => (i.zero, i.size, i.bytes)) = some (some (.agg #[.int .i64 0, .int .i64 0, .int .i64 0, .int .i64 0, .int .i64 0, .int .i64 0, .int .u32 0, .int .i64 0]), 8, 64) := by kernel_rfl
theorem take_snoc {l : List Ins} {k : Nat} (h : k < l.length) : l.take (k + 1) = l.take k ++ [l[k]] := by simp

/-- Behind one more instruction. -/
theorem ref_end {w x y w' : World} {o : Obj} {lo un : Int} {k : Nat} {l : List Ins} {v v' : Value} {i : Ins} {R O : Nat} {rs : Array Value} (hb : Below w.heap.size w x) (hO : Bk x O 34 #[v, .int .i64 lo, .int .i64 un]) (hR : Bk x R 34 rs) (hne : R ≠ O) (hwO : w.heap.size ≤ O)
    (hv : x.ownsRow w.heap.size 87 8 v k (progC l)) (hy : Below x.heap.size x y) (hw : w'.ownsRow w.heap.size 87 8 v' (k + 1) (progC l ++ insC i)) (hg : (y.alloc o).grownBy w' v.ownBlock) :
    Below w.heap.size w (w'.setCell ⟨O, 0, none⟩ v') ∧ Bk (w'.setCell ⟨O, 0, none⟩ v') O 34 #[v', .int .i64 lo, .int .i64 un] ∧ Bk (w'.setCell ⟨O, 0, none⟩ v') R 34 rs ∧ (w'.setCell ⟨O, 0, none⟩ v').ownsRow w.heap.size 87 8 v' (k + 1) (progC (l ++ [i])) := by
  have hA : Within x (y.alloc o) (fun _ => False) := (within_of_below hy).alloc o
  have hB : Within (y.alloc o) w' (fun b => some b = v.ownBlock) := .of_grown hg (by rintro i e; exact .inl e.symm)
  have hC : Within x w' (fun b => some b = v.ownBlock) := (hA.wide (by simp)).then_ hB (by rintro i e; exact .inl e)
  have un_ : ∀ {g : Nat} {cs : Array Value}, Bk x g 34 cs → Bk w' g 34 cs := fun hk => hk.within hC fun e => by
    obtain ⟨cs, hcs⟩ := own_bk hv e.symm
    exact Bk.unlike hcs hk (by decide) rfl
  have hO2 := un_ hO
  have hR2 := un_ hR
  have hb2 : Below w.heap.size w w' := by
    refine hb.trans ⟨hC.os, hC.tape, hC.output, hC.size, fun i hi => hC.block i (Nat.lt_of_lt_of_le hi hb.size) fun e => ?_⟩
    have := (World.ownsRow.lt hv i e.symm).1
    omega
  refine ⟨hb2.setCell hwO _, hO2.put 0 v', hR2.off hne _, ?_⟩
  rw [progC_snoc]
  refine own_within hw ((Within.refl w' (fun b => b = O)).put O 0 v' (.inl rfl)) fun b e e2 => ?_
  obtain ⟨cs, hcs⟩ := own_bk hw e
  exact Bk.unlike hcs hO2 (by decide) e2

set_option maxHeartbeats 1000000 in
theorem lRefO (c : Prg) (v : Value) (w : World) (hv : Pv w v c) (hl : c.l.length ≤ 1000) :
    Calls Try.prog 15 #[v] w fun e w' => ∃ sl, e = .returned (.agg #[sl, .int .i64 c.lo, .int .i64 c.un]) ∧ w'.ownsRow w.heap.size 87 8 sl c.l.length (progC c.l) ∧ Below w.heap.size w w' := by
  obtain ⟨a, ca, rfl, hc1, hc2, _, ha⟩ := hv
  obtain ⟨l, lo, un⟩ := c
  simp only at hl hc1 ha ⊢
  have q0 := ((Bk.made w 24 #[.slice a l.length ca, .int .i64 lo, .int .i64 un]).alloc (.cells #[.slice none 0 0, .int .i64 0, .int .i64 0] 34))
  have q1 := Bk.made (w.alloc (.cells #[.slice a l.length ca, .int .i64 lo, .int .i64 un] 24)) 34 #[.slice none 0 0, .int .i64 0, .int .i64 0]
  rw [World.size_alloc] at q1
  have b0 : Below w.heap.size w ((w.alloc (.cells #[.slice a l.length ca, .int .i64 lo, .int .i64 un] 24)).alloc (.cells #[.slice none 0 0, .int .i64 0, .int .i64 0] 34)) := ((Below.refl _ _).alloc (Nat.le_refl _) _).alloc (by simp) _
  go_enter Try.func15, Try.ntmps15
  go_upto_region 1 with fail
  generalize (w.alloc (.cells #[.slice a l.length ca, .int .i64 lo, .int .i64 un] 24)).alloc (.cells #[.slice none 0 0, .int .i64 0, .int .i64 0] 34) = x at *
  obtain ⟨x0, x1, x2⟩ : x.cell? ⟨w.heap.size, 0, none⟩ = some (.slice a l.length ca) ∧ x.cell? ⟨w.heap.size, 1, none⟩ = some (.int .i64 lo) ∧ x.cell? ⟨w.heap.size, 2, none⟩ = some (.int .i64 un) := ⟨q0.cell 0, q0.cell 1, q0.cell 2⟩
  go_upto_region 2 with fail
  have O0 := Bk.made x 34 #[.slice none 0 0, .int .i64 lo, .int .i64 un]
  have hxw : w.heap.size + 1 < x.heap.size := q1.lt
  replace q0 := q0.alloc (.cells #[.slice none 0 0, .int .i64 lo, .int .i64 un] 34)
  replace q1 := q1.alloc (.cells #[.slice none 0 0, .int .i64 lo, .int .i64 un] 34)
  replace b0 := b0.alloc (o := .cells #[.slice none 0 0, .int .i64 lo, .int .i64 un] 34) b0.size
  generalize x.heap.size = O at *
  generalize x.alloc (.cells #[.slice none 0 0, .int .i64 lo, .int .i64 un] 34) = x at *
  have z0 : x.cell? ⟨w.heap.size, 0, none⟩ = some (.slice a l.length ca) := q0.cell 0
  clear x0 x1 x2 q0
  go_wp2
  go_loopw [14] (fun i wr => ∃ (k : Nat) (v : Value), i = .int .i64 k ∧ k ≤ l.length ∧ Below w.heap.size w wr ∧ Bk wr O 34 #[v, .int .i64 lo, .int .i64 un] ∧ Bk wr (w.heap.size + 1) 34 #[.slice none 0 0, .int .i64 0, .int .i64 0] ∧ wr.ownsRow w.heap.size 87 8 v k (progC (l.take k))) (fun i _ => l.length - (intOf i).toNat)
  case atStart => exact ⟨0, .slice none 0 0, rfl, Nat.zero_le _, b0, O0, q1, World.ownsRow_nil _ _ _ _⟩
  case round =>
    obtain ⟨k, v, rfl, hk, hb, hO, hR, hv⟩ := hrel
    clear z0 O0 q1 b0
    by_cases hlt : k < l.length
    · have hki : (k : Int) < l.length := by omega
      obtain ⟨g, off, rfl, hgl, e0, e1, e2, e3, e4, e5, e6, e7⟩ := (ha.below hb).at_ (List.getElem?_eq_getElem hlt)
      have HT := Lib.hid (take_snoc hlt)
      generalize l[k] = i at *
      have HF := Lib.hid (fun W => rRef i W)
      obtain ⟨op, d, s, t, u, a', k', pl⟩ := i
      simp only at e0 e1 e2 e3 e4 e5 e6 e7
      unfold iv at HF
      simp only at HF
      obtain ⟨a2, cap2, rfl, hcap2, hmax2, _⟩ := own_is hv
      go_upto_region 5 with fail
      have m2 := Ib.made wr op d s t u a' k' pl
      replace hb := hb.alloc (o := .cells #[.int .i64 op, .int .i64 d, .int .i64 s, .int .i64 t, .int .i64 u, .int .i64 a', .int .u32 k', .int .i64 pl] 55) hb.size
      replace hO := hO.alloc (.cells #[.int .i64 op, .int .i64 d, .int .i64 s, .int .i64 t, .int .i64 u, .int .i64 a', .int .u32 k', .int .i64 pl] 55)
      replace hR := hR.alloc (.cells #[.int .i64 op, .int .i64 d, .int .i64 s, .int .i64 t, .int .i64 u, .int .i64 a', .int .u32 k', .int .i64 pl] 55)
      replace hv := World.ownsRow.alloc hv (.cells #[.int .i64 op, .int .i64 d, .int .i64 s, .int .i64 t, .int .i64 u, .int .i64 a', .int .u32 k', .int .i64 pl] 55)
      clear e0 e1 e2 e3 e4 e5 e6 e7
      generalize wr.heap.size = q at *
      generalize wr.alloc (.cells #[.int .i64 op, .int .i64 d, .int .i64 s, .int .i64 t, .int .i64 u, .int .i64 a', .int .u32 k', .int .i64 pl] 55) = x at *
      obtain ⟨e0, e1, e2, e3, e4, e5, e6, e7⟩ := m2.cells
      simp only at e0 e1 e2 e3 e4 e5 e6 e7
      have v0 : x.cell? ⟨O, 0, none⟩ = some (.slice a2 k cap2) := hO.cell 0
      have HV0 : Hid (∀ y, Below x.heap.size x y → y.cell? ⟨O, 0, none⟩ = some (.slice a2 k cap2)) := Lib.hid fun y hy => (hy.cell (p := ⟨O, 0, none⟩) hO.lt).trans v0
      have HV1 : Hid (∀ y, Below x.heap.size x y → ∀ o, (y.alloc o).cell? ⟨O, 0, none⟩ = some (.slice a2 k cap2)) := Lib.hid fun y hy o => (Bk.alloc ((hy.block _ hO.lt).trans hO) o).cell 0
      have HOW : Hid (∀ y, Below x.heap.size x y → (y.alloc (.cells #[.int .i64 op, .int .i64 d, .int .i64 s, .int .i64 t, .int .i64 u, .int .i64 a', .int .u32 k', .int .i64 pl] 87)).ownsRow w.heap.size 87 8 (.slice a2 k cap2) k (progC (l.take k))) := Lib.hid fun y hy => World.ownsRow.alloc (own_within hv (within_of_below hy) (by simp)) _
      have HNW : Hid (∀ y : World, ∀ (j : Nat) (uu : Value), [Value.int .i64 op, .int .i64 d, .int .i64 s, .int .i64 t, .int .i64 u, .int .i64 a', .int .u32 k', .int .i64 pl][j]? = some uu → (y.alloc (.cells #[.int .i64 op, .int .i64 d, .int .i64 s, .int .i64 t, .int .i64 u, .int .i64 a', .int .u32 k', .int .i64 pl] 87)).cell? ((⟨y.heap.size, 0, none⟩ : Addr).add j) = some uu) := Lib.hid fun y => news_bk (Bk.made y 87 #[.int .i64 op, .int .i64 d, .int .i64 s, .int .i64 t, .int .i64 u, .int .i64 a', .int .u32 k', .int .i64 pl])
      have HBS : Hid (∀ y, Below x.heap.size x y → w.heap.size ≤ (y.alloc (.cells #[.int .i64 op, .int .i64 d, .int .i64 s, .int .i64 t, .int .i64 u, .int .i64 a', .int .u32 k', .int .i64 pl] 87)).heap.size) := Lib.hid fun y hy => by rw [World.size_alloc]; have := hb.size; have := hy.size; omega
      have HEND : Hid (∀ y, Below x.heap.size x y → ∀ (w' : World) (v' : Value), w'.ownsRow w.heap.size 87 8 v' (k + 1) (progC (l.take k) ++ insC ⟨op, d, s, t, u, a', k', pl⟩) → (y.alloc (.cells #[.int .i64 op, .int .i64 d, .int .i64 s, .int .i64 t, .int .i64 u, .int .i64 a', .int .u32 k', .int .i64 pl] 87)).grownBy w' (Value.slice a2 k cap2).ownBlock →
        Below w.heap.size w (w'.setCell ⟨O, 0, none⟩ v') ∧ Bk (w'.setCell ⟨O, 0, none⟩ v') O 34 #[v', .int .i64 lo, .int .i64 un] ∧ Bk (w'.setCell ⟨O, 0, none⟩ v') (w.heap.size + 1) 34 #[.slice none 0 0, .int .i64 0, .int .i64 0] ∧ (w'.setCell ⟨O, 0, none⟩ v').ownsRow w.heap.size 87 8 v' (k + 1) (progC (l.take (k + 1)))) :=
        Lib.hid fun y hy w' v' h1 h2 => by rw [HT.out]; exact ref_end hb hO hR (by omega) (by omega) hv hy h1 h2
      have HKO : Hid (∀ y, Below x.heap.size x y → ∀ (w' : World), (y.alloc (.cells #[.int .i64 op, .int .i64 d, .int .i64 s, .int .i64 t, .int .i64 u, .int .i64 a', .int .u32 k', .int .i64 pl] 87)).grownBy w' (Value.slice a2 k cap2).ownBlock → Bk w' O 34 #[.slice a2 k cap2, .int .i64 lo, .int .i64 un]) := Lib.hid fun y hy w' hg =>
        Bk.grown (Bk.alloc ((hy.block _ hO.lt).trans hO) _) hg fun e => by
          obtain ⟨cs, hcs⟩ := own_bk hv e.symm
          exact Bk.unlike hcs hO (by decide) rfl
      clear hO hR hv hb m2 ha HT
      go_region_law (first
        | (have hy9 := hy; refine step_own rfl (.tmp 19) (.tmp 22) 32 rfl _ 64 Try.underlying32 refInfo rfl (by omega) (by omega) (HOW.out y hy) (by simp [Act.eval]) (insC ⟨op, d, s, t, u, a', k', pl⟩) rfl (insC_one _) y.heap.size (by simp [Act.eval]) (HNW.out y) (by omega) (HBS.out y hy) ?_; intro v' w' hown hgr hloc; have hko := HKO.out y hy w' hgr; have ck0 : w'.cell? ⟨O, 0, none⟩ = some (.slice a2 k cap2) := hko.cell 0; have cf0 := hko.free 0; obtain ⟨a3, cap3, rfl, _, _, _⟩ := own_is hown)
        | (go_simp; go_at_call 28; refine (HF.out _).mono ?_; rintro e y ⟨rfl, hy0⟩; have hy : Below x.heap.size x y := below_of_drew hy0; have hyv := HV0.out y hy; have hyo := HV1.out y hy))
      all_goals (
        have HS := Lib.hid (HEND.out y hy w' _ hown hgr)
        clear HOW HNW HBS HEND HKO HV0 HV1 HF hgr hown hloc
        go_wp2
        obtain ⟨s1, s2, s3, s4⟩ := HS.out
        go_roundw
        case rel => exact ⟨k + 1, _, by go_num, by omega, s1, s2, s3, s4⟩
        case measure =>
          show l.length - ((k : Int) + 1).toNat < l.length - (k : Int).toNat
          omega)
    · obtain rfl : k = l.length := by omega
      have hki : ¬ (l.length : Int) < l.length := by omega
      rw [List.take_length] at hv
      obtain ⟨a2, cap2, rfl, hcap2, hmax2, _⟩ := own_is hv
      obtain ⟨y0, y1, y2⟩ : wr.cell? ⟨O, 0, none⟩ = some (.slice a2 l.length cap2) ∧ wr.cell? ⟨O, 1, none⟩ = some (.int .i64 lo) ∧ wr.cell? ⟨O, 2, none⟩ = some (.int .i64 un) := ⟨hO.cell 0, hO.cell 1, hO.cell 2⟩
      obtain ⟨z0, z1, z2⟩ : wr.cell? ⟨w.heap.size + 1, 0, none⟩ = some (.slice none 0 0) ∧ wr.cell? ⟨w.heap.size + 1, 1, none⟩ = some (.int .i64 0) ∧ wr.cell? ⟨w.heap.size + 1, 2, none⟩ = some (.int .i64 0) := ⟨hR.cell 0, hR.cell 1, hR.cell 2⟩
      have zf := hR.free
      clear ha
      go_wp2
      have h9 := put3_bk hR (.slice a2 l.length cap2) (.int .i64 lo) (.int .i64 un)
      have b9 := put3_below hb (by show w.heap.size ≤ w.heap.size + 1; omega) (.slice a2 l.length cap2) (.int .i64 lo) (.int .i64 un)
      have o9 : (put3 wr (w.heap.size + 1) (.slice a2 l.length cap2) (.int .i64 lo) (.int .i64 un)).ownsRow w.heap.size 87 8 (.slice a2 l.length cap2) l.length (progC l) := own_within hv ((((Within.refl wr (fun b => b = w.heap.size + 1)).put (w.heap.size + 1) 0 (.slice a2 l.length cap2) (.inl rfl)).put (w.heap.size + 1) 1 (.int .i64 lo) (.inl rfl)).put (w.heap.size + 1) 2 (.int .i64 un) (.inl rfl)) (fun b e e2 => by
        obtain ⟨cs, hcs⟩ := own_bk hv e
        exact Bk.unlike hcs hR (by decide) e2)
      generalize hv9 : (((wr.setCell ⟨w.heap.size + 1, 0, none⟩ (.slice a2 l.length cap2)).setCell ⟨w.heap.size + 1, 1, none⟩ (.int .i64 lo)).setCell ⟨w.heap.size + 1, 2, none⟩ (.int .i64 un)) = v9
      replace hv9 : put3 wr (w.heap.size + 1) (.slice a2 l.length cap2) (.int .i64 lo) (.int .i64 un) = v9 := hv9
      rw [hv9] at h9 b9 o9
      obtain ⟨q0, q1, q2⟩ : v9.cell? ⟨w.heap.size + 1, 0, none⟩ = some (.slice a2 l.length cap2) ∧ v9.cell? ⟨w.heap.size + 1, 1, none⟩ = some (.int .i64 lo) ∧ v9.cell? ⟨w.heap.size + 1, 2, none⟩ = some (.int .i64 un) := ⟨h9.cell 0, h9.cell 1, h9.cell 2⟩
      refine bodyPost_ret (v := .agg #[.slice a2 l.length cap2, .int .i64 lo, .int .i64 un]) (by simp [results, Try.results15, go_sem, q0, q1, q2]) rfl ⟨.slice a2 l.length cap2, rfl, o9, b9⟩
theorem own_pv {w : World} {base : Nat} {t : TypeId} {sl : Value} {c : Prg} (h : w.ownsRow base t 8 sl c.l.length (progC c.l)) : Pv w (.agg #[sl, .int .i64 c.lo, .int .i64 c.un]) c := by
  obtain ⟨a, cap, rfl, h1, h2, _⟩ := own_is h
  exact ⟨a, cap, rfl, h1, h2, own_nil h, sli_own h⟩
theorem lRef (c : Prg) (v : Value) (w : World) (hv : Pv w v c) (hl : c.l.length ≤ 1000) :
    Calls Try.prog 15 #[v] w fun e w' => ∃ v', e = .returned v' ∧ Pv w' v' c ∧ Below w.heap.size w w' :=
  (lRefO c v w hv hl).mono fun e w' ⟨sl, h1, h2, h3⟩ => ⟨_, h1, own_pv h2, h3⟩
end Go.Proofs.Ytpinpipjlongaaa
